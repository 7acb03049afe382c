/- A part. -/
import Derived.Test.YtapbeiccodnniaaGreatM3
namespace Go.Proofs.YtapbeiccodnniaaGreat
open Go.ChangeShapes Go.WideShapes Go.ChangeAt Go.RowKit
set_option linter.unusedSimpArgs false
set_option linter.unusedVariables false
set_option maxHeartbeats 8000000
set_option maxRecDepth 8000
theorem xex {h h':Int}{v:QV}(hv:xas h v=0)(hh:h<=h'):xas h' v=0:=by
 unfold xas xch at hv ⊢
 split at hv
 ·cases hv
 ·split at hv
  ·rename_i a b;rw[if_neg a,if_pos b];exact hv
  ·split at hv
   ·rename_i a b c;rw[if_neg a,if_neg b,if_pos c];exact hv
   ·rename_i a b c;rw[if_neg a,if_neg b,if_neg c]
    split at hv
    ·cases hv
    ·rename_i d;rw[if_neg (by omega)]
theorem xaT (h:Int):xas h xaU=0:=by simp[xas,xch]
def VsOk (h:Int)(l:List QV):Prop:=∀ v∈l,xas h v=0
theorem VsOk.later {h h':Int}{l:List QV}(hl:VsOk h l)(hh:h<=h'):VsOk h' l:=fun v hv=>xex (hl v hv) hh
theorem VsOk.entry {h:Int}{l:List QV}(hl:VsOk h l)(n:Int):xas h (xaM l n)=0:=by
 unfold xaM
 split
 ·exact xaT h
 ·cases hq:l[n.toNat]? with
  | none=>exact xaT h
  | some v=>exact hl v (List.mem_of_getElem? hq)
theorem VsOk.setEntry {h:Int}{l:List QV}(hl:VsOk h l)(n:Int){x:QV}(hx:xas h x=0):VsOk h (xaV l n x):=by
 unfold xaV
 split
 ·exact hl
 ·intro v hv
  rcases List.mem_or_eq_of_mem_set hv with h1 | rfl
  ·exact hl v h1
  ·exact hx
theorem xcd (l:List QV)(n:Int)(x:QV):(xaV l n x).length=l.length:=by unfold xaV;split<;>simp
theorem VsOk.append {h:Int}{l:List QV}(hl:VsOk h l){x:QV}(hx:xas h x=0):VsOk h (l++[x]):=fun v hv=>by
 simp at hv
 rcases hv with h1 | rfl
 ·exact hl v h1
 ·exact hx
theorem VsOk.sub {h:Int}{l k:List QV}(hl:VsOk h l)(hk:∀ v∈k,v∈l):VsOk h k:=fun v hv=>hl v (hk v hv)
theorem xc8 (h n:Int):VsOk h (xaQ n):=fun v hv=>by
 unfold xaQ at hv;rw[(List.mem_replicate.1 hv).2]
 exact xaT h
structure HOk (cs:List QC)(h:List QO):Prop where
 len:h.length<=60
 obj:∀ o∈h,xbP cs.length o.cls=true/\(o.slots.length:Int)=xa8 cs o.cls/\VsOk h.length o.slots
theorem xes {h:List QO}{v:QV}{o:QO}(e:xdt h v=some o):h[v.n.toNat]?=some o:=by
 unfold xdt at e
 split at e
 ·exact e
 ·cases e
theorem HOk.slot {cs:List QC}{h:List QO}(hh:HOk cs h)(v:QV)(n:Int):xas h.length (xcV h v n)=0:=by
 unfold xcV
 cases e:xdt h v with
 | none=>exact xaT _
 | some o=>exact (hh.obj o (List.mem_of_getElem? (xes e))).2.2.entry n
theorem xbX (h:List QO)(v:QV)(n:Int)(x:QV):(xaR h v n x).length=h.length:=by unfold xaR;split<;>simp
theorem HOk.setSlot {cs:List QC}{h:List QO}(hh:HOk cs h)(v:QV)(n:Int){x:QV}(hx:xas h.length x=0):HOk cs (xaR h v n x):=by
 refine⟨by rw[xbX];exact hh.len,fun o ho=>?_⟩
 rw[xbX];unfold xaR at ho
 split at ho
 ·exact hh.obj o ho
 ·rename_i p e
  rcases List.mem_or_eq_of_mem_set ho with h1 | rfl
  ·exact hh.obj o h1
  ·obtain⟨a,b,c⟩:=hh.obj p (List.mem_of_getElem? (xes e))
   exact⟨a,by simp only[xcd];exact b,c.setEntry n hx⟩
theorem HOk.make {cs:List QC}{h:List QO}(hh:HOk cs h){c:Int}(hc:xbP cs.length c=true){k:Nat}(hk:(k:Int)=xa8 cs c)(hl:h.length<60):HOk cs (h++[⟨c,List.replicate k xaU⟩]):=by
 refine⟨by simp;omega,fun o ho=>?_⟩
 simp only[List.length_append,List.length_cons,List.length_nil,List.mem_append,List.mem_singleton] at ho ⊢
 rcases ho with h1 | rfl
 ·obtain⟨a,b,d⟩:=hh.obj o h1
  exact⟨a,b,d.later (by omega)⟩
 ·exact⟨hc,by simpa using hk,fun v hv=>by rw[(List.mem_replicate.1 hv).2];exact xaT _⟩
def xhm (cs:List QC)(l:List QI):Prop:=∀ x∈l,(x.op=5->-1073741824<=x.a/\x.a<=1073741824)/\(x.op=13->xbP cs.length x.a=true)
structure FOk (cs:List QC)(h:Int)(f:Fr):Prop where
 self:xas h f.self=0
 args:VsOk h f.args
 temps:VsOk h f.temps
 stack:VsOk h f.stack
 code:xhm cs f.code
 plain:xhm cs f.meth.code
theorem FOk.later {cs:List QC}{h h':Int}{f:Fr}(hf:FOk cs h f)(hh:h<=h'):FOk cs h' f:=⟨xex hf.self hh,hf.args.later hh,hf.temps.later hh,hf.stack.later hh,hf.code,hf.plain⟩
theorem FOk.push {cs:List QC}{h:Int}{f:Fr}(hf:FOk cs h f){v:QV}(hv:xas h v=0):FOk cs h (f.push v):=⟨hf.self,hf.args,hf.temps,hf.stack.append hv,hf.code,hf.plain⟩
theorem FOk.pop {cs:List QC}{h:Int}{f:Fr}(hf:FOk cs h f):FOk cs h f.pop:=⟨hf.self,hf.args,hf.temps,hf.stack.sub fun v hv=>List.dropLast_subset _ hv,hf.code,hf.plain⟩
theorem FOk.top {cs:List QC}{h:Int}{f:Fr}(hf:FOk cs h f):xas h f.top=0:=hf.stack.entry _
theorem FOk.leave {cs:List QC}{h:Int}{f:Fr}(hf:FOk cs h f)(c:Int):FOk cs h (f.leave c):=by
 refine⟨hf.self,hf.args,fun v hv=>?_,hf.stack,hf.plain,hf.plain⟩
 simp only[Fr.leave,List.mem_map] at hv;obtain⟨p,-,rfl⟩:=hv
 cases hq:f.temps[p.2]? with
 | none=>exact xaT h
 | some v=>exact hf.temps v (List.mem_of_getElem? hq)
section
variable {σ:Type}
structure EOk (E:Env σ):Prop where
 meths:∀ c n m,xaO E.cz c n=some m->xhm E.cz m.code
 fast:∀ c n q,E.quick c n=some q->xhm E.cz q.1
 slots:∀ c,xa8 E.cz c=xaP E.cz c/\0<=xaP E.cz c
structure ROk (cs:List QC)(m m':Mc σ):Prop where
 heap:HOk cs m'.heap
 more:m.heap.length<=m'.heap.length
def xjT (cs:List QC)(ent:Ent σ):Prop:=∀ m c n s a,HOk cs m.heap->xas m.heap.length s=0->VsOk m.heap.length a->ROk cs m (ent m c n s a).1/\xas (ent m c n s a).1.heap.length (ent m c n s a).2.1=0
def xe3 (cs:List QC)(m:Mc σ)(r:Mc σ × Fr × Int):Prop:=ROk cs m r.1/\(r.2.2=0->FOk cs r.1.heap.length r.2.1)
theorem xk5 {cs:List QC}{m:Mc σ}{f:Fr}(hm:HOk cs m.heap)(hf:FOk cs m.heap.length f)(a b:Int):xe3 cs m (xaX m f a b):=by
 have hf':∀ t,FOk cs m.heap.length { f with pc:=t }:=fun t=>⟨hf.self,hf.args,hf.temps,hf.stack,hf.code,hf.plain⟩
 unfold xaX xe3
 by_cases h:b<=a
 ·simp only[h,if_true]
  split
  ·exact⟨⟨hm,qzC _⟩,fun h=>by cases h⟩
  ·exact⟨⟨hm,qzC _⟩,fun _=>hf' b⟩
 ·simp only[h,if_false]
  split
  ·exact⟨⟨hm,qzC _⟩,fun h=>by cases h⟩
  ·exact⟨⟨hm,qzC _⟩,fun _=>hf' b⟩
theorem xof {cs:List QC}{m:Mc σ}{f:Fr}(hm:HOk cs m.heap)(hf:FOk cs m.heap.length f)(a b:Int):xe3 cs m (xbr m f a b):=by
 unfold xbr
 split
 ·exact⟨⟨hm,qzC _⟩,fun _=>hf.pop⟩
 ·split
  ·exact xk5 hm hf.pop a b
  ·exact⟨⟨hm,qzC _⟩,fun _=>hf⟩
theorem xnh {E:Env σ}(hE:EOk E){m:Mc σ}{f:Fr}(hm:HOk E.cz m.heap)(hf:FOk E.cz m.heap.length f){c:Int}(hc:xbP E.cz.length c=true):xe3 E.cz m (xbQ E m f c):=by
 unfold xbQ
 split
 ·exact⟨⟨hm,qzC _⟩,fun _=>hf⟩
 ·rename_i h;obtain⟨h1,h2⟩:=hE.slots c;refine⟨⟨hm.make hc (by rw[h1];omega) (by omega),by simp⟩,fun _=>?_⟩
  refine (hf.later ?_).push ?_
  ·simp only[List.length_append,List.length_cons,List.length_nil];omega
  ·simp only[List.length_append,List.length_cons,List.length_nil,xas,xch];rw[if_neg (by omega),if_neg (by omega),if_neg (by omega),if_neg (by omega)]
theorem xgh {cs:List QC}(E:Env σ)(d:Nat){m:Mc σ}(hm:HOk cs m.heap):ROk cs m (xay E d m).1/\(xay E d m).1.heap=m.heap:=by
 unfold xay
 split
 ·exact⟨⟨hm,qzC _⟩,rfl⟩
 ·split
  ·exact⟨⟨hm,qzC _⟩,rfl⟩
  ·exact⟨⟨hm,qzC _⟩,rfl⟩
theorem xm8 {cs:List QC}(E:Env σ)(d:Nat){m:Mc σ}{f:Fr}(hm:HOk cs m.heap)(hf:FOk cs m.heap.length f)(x:QI):xe3 cs m (xcl E d m f x):=by
 unfold xcl
 split
 ·exact⟨⟨hm,qzC _⟩,fun h=>by cases h⟩
 ·split
  ·refine⟨⟨hm,qzC _⟩,fun _=>?_⟩
   simp only[]
   split
   ·exact hf
   ·exact hf.leave x.c
  ·split
   ·exact⟨⟨hm,qzC _⟩,fun _=>hf.push (hm.slot _ _)⟩
   ·split
    ·refine⟨⟨hm.setSlot _ _ hf.top,by simp[xbX]⟩,fun _=>?_⟩
     simp only[xbX]
     exact hf.pop
    ·split
     ·obtain⟨h1,h2⟩:=xgh (cs:=cs) E d hm;refine⟨h1,fun _=>?_⟩
      simp only[h2]
      exact hf
     ·exact⟨⟨hm,qzC _⟩,fun h=>by cases h⟩
theorem xnc {cs:List QC}{ent:Ent σ}(he:xjT cs ent)(E:Env σ){m:Mc σ}{f:Fr}(hm:HOk cs m.heap)(hf:FOk cs m.heap.length f)(at':Int)(x:QI):xe3 cs m (xcm ent E m f at' x):=by
 unfold xcm;simp only[];generalize E.look m.st (f.site at' x) (xar m.heap (xaW (f.stack.take (xbu f.stack x.a)) 0)) x.name=l;have ht:VsOk m.heap.length (f.stack.take (xbu f.stack x.a)):=hf.stack.sub fun v hv=>List.mem_of_mem_take hv
 obtain⟨h1,h2⟩:=he { m with st:=l.1 } l.2.1 l.2.2 (xaW (f.stack.take (xbu f.stack x.a)) 0) (f.stack.drop (xbu f.stack x.a)) hm (ht.entry _) (hf.stack.sub fun v hv=>List.mem_of_mem_drop hv)
 generalize ent { m with st:=l.1 } l.2.1 l.2.2 (xaW (f.stack.take (xbu f.stack x.a)) 0) (f.stack.drop (xbu f.stack x.a))=r at h1 h2 ⊢
 have hmore:m.heap.length<=r.1.heap.length:=h1.more
 split
 ·rename_i h;exact⟨⟨h1.heap,hmore⟩,fun h'=>absurd h' h⟩
 ·refine⟨⟨h1.heap,hmore⟩,fun _=>?_⟩
  have hf':=hf.later (h':=(r.1.heap.length:Int)) (by omega)
  have ht':VsOk (r.1.heap.length:Int) (f.stack.take (xbu f.stack x.a)):=ht.later (by omega)
  exact⟨hf'.self,hf'.args,hf'.temps,((ht'.sub fun v hv=>List.dropLast_subset _ hv).append h2),hf'.code,hf'.plain⟩
theorem xkY {cs:List QC}{h:List QO}{f:Fr}(hm:HOk cs h)(hf:FOk cs h.length f){x:QI}(hx:x.op=5->-1073741824<=x.a/\x.a<=1073741824){v:QV}(e:xaA h f x=some v):xas h.length v=0:=by
 unfold xaA at e
 split at e
 ·cases e;exact hf.self
 ·split at e
  ·cases e;exact hf.args.entry _
  ·split at e
   ·cases e;exact hf.temps.entry _
   ·split at e
    ·cases e;exact hm.slot _ _
    ·split at e
     ·rename_i h5
      cases e
      have:=hx h5;simp only[xas,xch];rw[if_neg (by omega),if_neg (by omega),if_pos trivial,if_neg (by omega)]
     ·split at e
      ·cases e;exact xaT _
      ·split at e
       ·cases e;simp[xas,xch]
       ·split at e
        ·cases e;simp[xas,xch]
        ·cases e
theorem xgl {E:Env σ}(hE:EOk E){ent:Ent σ}(he:xjT E.cz ent)(d:Nat){m:Mc σ}{f:Fr}(hm:HOk E.cz m.heap)(hf:FOk E.cz m.heap.length f)(at':Int){x:QI}(h5:x.op=5->-1073741824<=x.a/\x.a<=1073741824)(h13:x.op=13->xbP E.cz.length x.a=true):xe3 E.cz m (xan ent E d m f at' x):=by
 unfold xan
 split
 ·rename_i v e
  exact⟨⟨hm,qzC _⟩,fun _=>hf.push (xkY hm hf h5 e)⟩
 ·split
  ·exact⟨⟨hm,qzC _⟩,fun _=>hf.pop⟩
  ·split
   ·exact⟨⟨hm,qzC _⟩,fun _=>hf.push hf.top⟩
   ·split
    ·exact⟨⟨hm,qzC _⟩,fun _=>⟨hf.self,hf.args,hf.temps.setEntry _ hf.top,hf.pop.stack,hf.code,hf.plain⟩⟩
    ·split
     ·refine⟨⟨hm.setSlot _ _ hf.top,by simp[xbX]⟩,fun _=>?_⟩
      simp only[xbX]
      exact hf.pop
     ·split
      ·rename_i h;exact xnh hE hm hf (h13 h)
      ·split
       ·exact xnc he E hm hf at' x
       ·split
        ·exact xk5 hm hf at' x.a
        ·split
         ·exact xof hm hf at' x.a
         ·exact xm8 E d hm hf x
theorem ROk.trans {cs:List QC}{a b c:Mc σ}(h:ROk cs a b)(k:ROk cs b c):ROk cs a c:=⟨k.heap,qzD h.more k.more⟩
theorem xmE {E:Env σ}(hE:EOk E){ent:Ent σ}(he:xjT E.cz ent)(d:Nat):∀ (g:Nat) {m:Mc σ} {f:Fr},HOk E.cz m.heap->FOk E.cz m.heap.length f->ROk E.cz m (xcL ent E d g m f).1/\xas (xcL ent E d g m f).1.heap.length (xcL ent E d g m f).2.1=0
 | 0,m,f,hm,hf=>⟨⟨hm,qzC _⟩,xaT _⟩
 | g+1,m,f,hm,hf=>by
  unfold xcL
  cases hq:(if f.pc<0 then none else f.code[f.pc.toNat]?) with
  | none=>exact⟨⟨hm,qzC _⟩,xaT _⟩
  | some x=>
   have hx:x∈f.code:=by
    split at hq
    ·cases hq
    ·exact List.mem_of_getElem? hq
   simp only[]
   by_cases h17:x.op=17
   ·rw[if_pos h17];exact⟨⟨hm,qzC _⟩,hf.top⟩
   ·rw[if_neg h17];have hf1:FOk E.cz m.heap.length { f with pc:=f.pc+1 }:=⟨hf.self,hf.args,hf.temps,hf.stack,hf.code,hf.plain⟩
    obtain⟨h1,h2⟩:=xgl hE he d hm hf1 f.pc (hf.code x hx).1 (hf.code x hx).2;generalize xan ent E d m { f with pc:=f.pc+1 } f.pc x=r at h1 h2 ⊢
    by_cases h0:r.2.2≠0
    ·rw[if_pos h0];exact⟨h1,xaT _⟩
    ·rw[if_neg h0];obtain⟨k1,k2⟩:=xmE hE he d g h1.heap (h2 (by simpa using h0))
     exact⟨h1.trans k1,k2⟩
theorem xju (h:Int){a b:QV}(p:Int):xas h (xbA p a b).1=0:=by
 have tm:∀ n:Int,-1073741824<=n.tmod 1073741825/\n.tmod 1073741825<=1073741824:=fun n=>by
  have h1:=Int.tmod_lt_of_pos n (b:=1073741825) (by omega)
  have h2:=Int.lt_tmod_of_pos n (b:=1073741825) (by omega)
  omega
 have num:∀ n:Int,xas h ⟨3,n.tmod 1073741825⟩=0:=fun n=>by
  have:=tm n;simp only[xas,xch];rw[if_neg (by omega),if_neg (by omega),if_pos trivial,if_neg (by omega)]
 have bol:∀ c:Prop,∀ _:Decidable c,xas h ⟨if c then 2 else 1,0⟩=0:=fun c _=>by
  by_cases hc:c<;>simp[hc,xas,xch]
 unfold xbA
 split
 ·exact xaT h
 ·split
  ·exact num _
  ·split
   ·exact num _
   ·split
    ·exact num _
    ·split
     ·exact bol _ _
     ·split
      ·exact bol _ _
      ·exact xaT h
theorem xiy {E:Env σ}(hE:EOk E)(d:Nat){body:Mc σ->Fr->Mc σ × QV × Int}(hb:∀ {m f},HOk E.cz m.heap->FOk E.cz m.heap.length f->ROk E.cz m (body m f).1/\xas (body m f).1.heap.length (body m f).2.1=0):xjT E.cz (xbj E d body):=by
 intro m c n s a hm hs ha;unfold xbj
 cases hmt:xaO E.cz c n with
 | none=>exact⟨⟨hm,qzC _⟩,xaT _⟩
 | some mt=>
  simp only[]
  split
  ·exact⟨⟨hm,qzC _⟩,xaT _⟩
  ·split
   ·split
    ·exact⟨⟨hm,qzC _⟩,xaT _⟩
    ·exact⟨⟨hm,qzC _⟩,xju _ _⟩
   ·split
    ·exact⟨⟨hm,qzC _⟩,xaT _⟩
    ·obtain⟨h1,h2⟩:=xgh (cs:=E.cz) E d hm
     have hf:FOk E.cz (xay E d m).1.heap.length (xaG E c n mt s a):=by
      rw[h2];have hmc:=hE.meths c n mt hmt;unfold xaG
      cases hq:E.quick c n with
      | none=>exact⟨hs,ha,xc8 _ _,fun v hv=>by simp at hv,hmc,hmc⟩
      | some q=>exact⟨hs,ha,xc8 _ _,fun v hv=>by simp at hv,hE.fast c n q hq,hmc⟩
     obtain⟨k1,k2⟩:=hb h1.heap hf
     exact⟨h1.trans k1,k2⟩
theorem xhl {E:Env σ}(hE:EOk E):∀ d:Nat,xjT E.cz (xa1 E d)
 | 0=>xiy hE 0 fun hm hf=>⟨⟨hm,qzC _⟩,xaT _⟩
 | d+1=>xiy hE (d+1) fun hm hf=>xmE hE (xhl hE d) d _ hm hf
theorem xgi {f:QI->Int}:∀ {l:List QI} {k:Nat} {p:Int × Int},xjw f k l=some p->p.1≠0
 | [],k,p,h=>by simp[xjw] at h
 | z :: r,k,p,h=>by
  unfold xjw at h
  split at h
  ·rename_i hz;cases h;exact hz
  ·exact xgi h
def xfk:Int->Int->Option (List QI × Int):=fun _ _=>none
theorem xdz {X:QW}(h:xaJ X=0):HOk X.cz X.heap:=by
 obtain⟨hs,-,-,ho⟩:=xbE h;refine⟨hs.heap,fun o hm=>?_⟩
 obtain⟨i,hi,rfl⟩:=List.mem_iff_getElem.1 hm;have hr:=ho i _ hi (List.getElem?_eq_getElem hi);unfold roE at hr
 split at hr
 ·cases hr
 ·rename_i hn;have hn':=not_or.1 hn;refine⟨by simpa using hn'.1,by simpa using hn'.2,fun v hv=>?_⟩
  obtain⟨k,hk,rfl⟩:=List.mem_iff_getElem.1 hv
  exact xbH hr k _ (List.getElem?_eq_getElem hk)
theorem xd1 {X:QW}(h:xaJ X=0):xbL X.cz:=fun i x hx=>by
 obtain⟨hs,hc,-,-⟩:=xbE h;have hr:=hc i x (xae hx) hx;unfold rcE at hr
 split at hr
 ·cases hr
 ·split at hr
  ·split at hr
   ·cases hr
   ·split at hr
    ·cases hr
    ·split at hr
     ·cases hr
     ·split at hr
      ·cases hr
      ·omega
  ·split at hr
   ·cases hr
   ·split at hr
    ·cases hr
    ·split at hr
     ·cases hr
     ·omega
theorem xhR {X:QW}(h:xaJ X=0)(c:Int):xa8 X.cz c=xaP X.cz c/\0<=xaP X.cz c:=by
 have ho:=xd1 h;obtain⟨hs,-,-,-⟩:=xbE h;have hm:=hs.many
 exact⟨xeH ho (by omega) c,(xcv ho (X.cz.length+1) c 0 (Int.le_refl _)).1⟩
theorem xjL {X:QW}(h:xaJ X=0){c n:Int}{m:QM}(hm:xaO X.cz c n=some m):xhm X.cz m.code:=by
 obtain⟨hs,-,hk,-⟩:=xbE h;unfold xaO at hm
 cases hx:xby X.cz c with
 | none=>rw[hx] at hm;cases hm
 | some x=>
  rw[hx] at hm;simp only[Option.bind_some] at hm;obtain⟨k,rfl,hx'⟩:=xbn hx
  split at hm
  ·have hr:=hk k x (xae hx') hx';unfold rkE at hr
   split at hr
   ·cases hr
   ·split at hr
    ·cases hr
    ·have hq:=xbH hr _ _ hm;unfold rmE at hq
     split at hq
     ·cases hq
     ·split at hq
      ·rename_i hp;unfold xgz at hp;rw[List.any_eq_true] at hp;obtain⟨p,-,hp⟩:=hp;simp only[Bool.and_eq_true,decide_eq_true_eq] at hp;have:m.code=[]:=List.eq_nil_of_length_eq_zero hp.2;rw[this];intro y hy
       simp at hy
      ·unfold xdY at hq
       split at hq
       ·rename_i a;exact absurd hq a
       ·split at hq
        ·rename_i f e
         exact absurd hq (xgi e)
        ·rename_i e;intro y hy;have hn:=xgm e y hy;unfold xgk at hn
         split at hn
         ·cases hn
         ·split at hn
          ·cases hn
          ·rename_i hra;unfold raE at hra;refine⟨fun h5=>?_,fun h13=>?_⟩
           ·simp[h5,inR] at hra
            omega
           ·simp[h13,inR] at hra
            simp[xbP]
            omega
  ·cases hm
theorem xeM {X:QW}(h:xaJ X=0)(fuel:Int)(look:σ->QS->Int->ByteArray->σ × (Int × Int)):EOk (⟨X.cz,fuel,look,xfk⟩:Env σ):=
 ⟨fun c n m hm=>xjL h hm,fun c n q hq=>(by cases hq),fun c=>xhR h c⟩
end
structure PlOk (f:Fr):Prop where
 fast:f.fast=false
 code:f.code=f.meth.code
 nums:∃ S n,∀ x∈f.code,xgk S n f.meth x=0
 hts:(xaH f.code).2.1=0
 args:(f.args.length:Int)=f.meth.args
 temps:(f.temps.length:Int)=f.meth.temps
 pc:∃ k:Nat,f.pc=k/\k<f.code.length/\(f.stack.length:Int)=(xaH f.code).1.getD k 0
theorem xkn {S n:Int}{m:QM}{x:QI}(h:xgk S n m x=0):1<=x.op/\x.op<=17/\(x.op=2->0<=x.a/\x.a<m.args)/\(x.op=3\/x.op=11->0<=x.a/\x.a<m.temps)/\(x.op=14->0<=x.a/\x.a<=4)/\x.b=0/\x.c=0:=by
 have h14:=xdW h;unfold xgk at h
 split at h
 ·cases h
 ·rename_i h1
  split at h
  ·cases h
  ·rename_i hra
   split at h
   ·cases h
   ·rename_i hr
    simp[inR] at h1
    refine⟨by omega,by omega,fun h2=>?_,fun h3=>?_,h14,by omega,by omega⟩
    ·simp[raE,h2,inR] at hra;omega
    ·rcases h3 with h3 | h3<;>(simp[raE,h3,inR] at hra;omega)
structure NxOk (f:Fr)(k:Nat)(x:QI):Prop where
 pc:f.pc=k
 lt:k<f.code.length
 here:f.code[k]?=some x
 need:(xaN x k).need<=f.stack.length
 back:x.op=17->f.stack.length=1
 few:f.stack.length<=12
 next:∀ t∈(xaN x k).next,∃ j:Nat,t=(j:Int)/\j<f.code.length/\(xaH f.code).1.getD j 0=f.stack.length+(xaN x k).more
 kind:1<=x.op/\x.op<=17
 arg:x.op=2->0<=x.a/\x.a<f.args.length
 temp:x.op=3\/x.op=11->0<=x.a/\x.a<f.temps.length
 send:x.op=14->0<=x.a/\x.a<=4
 zero:x.b=0/\x.c=0
theorem PlOk.nx {f:Fr}(h:PlOk f):∃ k x,NxOk f k x:=by
 obtain⟨S,n,hn⟩:=h.nums;obtain⟨k,hk,hlt,hs⟩:=h.pc;have hx:f.code[k]?=some f.code[k]:=List.getElem?_eq_getElem hlt;have hso:xc5 f.code:=fun y hy=>xdW (hn y hy)
 obtain⟨-,-,-,hat⟩:=xf3 hso h.hts;obtain⟨h1,h2,h3,h4⟩:=hat k _ hx (by omega)
 obtain⟨n1,n2,n3,n4,n5,n6,n7⟩:=xkn (hn f.code[k] (List.getElem_mem hlt));rw[← h.args] at n3;rw[← h.temps] at n4;refine⟨k,f.code[k],hk,hlt,hx,by omega,fun h17=>by have:=h3 h17;omega,by omega,fun t ht=>?_,⟨n1,n2⟩,n3,n4,n5,⟨n6,n7⟩⟩
 obtain⟨j,j1,j2,j3⟩:=h4 t ht
 exact⟨j,j1,j2,by omega⟩
theorem PlOk.go {f f':Fr}(h:PlOk f){k:Nat}{x:QI}(hx:NxOk f k x)(e1:f'.meth=f.meth)(e2:f'.args=f.args)(e3:f'.code=f.code)(e4:f'.fast=f.fast)(e5:f'.temps.length=f.temps.length)(e6:(f'.stack.length:Int)=f.stack.length+(xaN x k).more)(e7:f'.pc∈(xaN x k).next):PlOk f':=by
 obtain⟨j,j1,j2,j3⟩:=hx.next _ e7;refine⟨e4.trans h.fast,by rw[e3,e1];exact h.code,by rw[e3,e1];exact h.nums,by rw[e3];exact h.hts,by rw[e2,e1];exact h.args,by rw[e5,e1];exact h.temps,j,j1,by rw[e3];exact j2,by rw[e3,j3];exact e6⟩
theorem xhy {σ:Type}{m:Mc σ}{f:Fr}{a b:Int}(h0:(xaX m f a b).2.2=0):(xaX m f a b).2.1={ f with pc:=b }:=by
 unfold xaX at h0 ⊢;simp only[] at h0 ⊢;generalize (if b<=a then { m with turns:=m.turns+1 } else m:Mc σ)=m' at h0 ⊢
 by_cases h:300<m'.turns
 ·rw[if_pos h] at h0;cases h0
 ·rw[if_neg h]
theorem xfQ {h:List QO}{f:Fr}{x:QI}{v:QV}(e:xaA h f x=some v):1<=x.op/\x.op<=8:=by
 unfold xaA at e
 split at e
 ·omega
 ·split at e
  ·omega
  ·split at e
   ·omega
   ·split at e
    ·omega
    ·split at e
     ·omega
     ·split at e
      ·omega
      ·split at e
       ·omega
       ·split at e
        ·omega
        ·cases e
theorem xn7 {σ:Type}{ent:Ent σ}{E:Env σ}{d:Nat}{m:Mc σ}{f:Fr}(h:PlOk f){k:Nat}{x:QI}(hx:NxOk f k x)(h17:x.op≠17)(h0:(xan ent E d m { f with pc:=f.pc+1 } f.pc x).2.2=0):PlOk (xan ent E d m { f with pc:=f.pc+1 } f.pc x).2.1:=by
 have hpc:=hx.pc;have hneed:=hx.need;have hkind:=hx.kind;unfold xan at h0 ⊢
 split
 ·rename_i v e;have ho:=xfQ e
  have hn:xaN x k=⟨0,1,[(k:Int)+1]⟩:=by
   unfold xaN;rw[if_neg (by omega),if_neg (by omega),if_neg (by omega),if_neg (by omega),if_neg (by omega),if_neg (by omega)]
  exact h.go hx rfl rfl rfl rfl rfl (by rw[hn];simp[Fr.push]) (by rw[hn,← hpc];simp[Fr.push])
 ·rename_i e;rw[e] at h0;simp only[] at h0
  split
  ·rename_i h9;have hn:xaN x k=⟨1,-1,[(k:Int)+1]⟩:=by unfold xaN;rw[if_pos (by omega)]
   rw[hn] at hneed;simp only[] at hneed
   exact h.go hx rfl rfl rfl rfl rfl (by rw[hn];simp[Fr.pop];omega) (by rw[hn,← hpc];simp[Fr.pop])
  ·split
   ·rename_i h9 h10;have hn:xaN x k=⟨1,1,[(k:Int)+1]⟩:=by unfold xaN;rw[if_neg (by omega),if_pos h10]
    exact h.go hx rfl rfl rfl rfl rfl (by rw[hn];simp[Fr.push]) (by rw[hn,← hpc];simp[Fr.push])
   ·split
    ·rename_i h9 h10 h11;have hn:xaN x k=⟨1,-1,[(k:Int)+1]⟩:=by unfold xaN;rw[if_pos (by omega)]
     rw[hn] at hneed;simp only[] at hneed
     exact h.go hx rfl rfl rfl rfl (by simp[xcd]) (by rw[hn];simp[Fr.pop];omega) (by rw[hn,← hpc];simp[Fr.pop])
    ·split
     ·rename_i h9 h10 h11 h12;have hn:xaN x k=⟨1,-1,[(k:Int)+1]⟩:=by unfold xaN;rw[if_pos (by omega)]
      rw[hn] at hneed;simp only[] at hneed
      exact h.go hx rfl rfl rfl rfl rfl (by rw[hn];simp[Fr.pop];omega) (by rw[hn,← hpc];simp[Fr.pop])
     ·split
      ·rename_i h9 h10 h11 h12 h13;rw[if_neg h9,if_neg h10,if_neg h11,if_neg h12,if_pos h13] at h0
       have hn:xaN x k=⟨0,1,[(k:Int)+1]⟩:=by
        unfold xaN;rw[if_neg (by omega),if_neg (by omega),if_neg (by omega),if_neg (by omega),if_neg (by omega),if_neg (by omega)]
       unfold xbQ at h0 ⊢
       split
       ·rename_i hc;rw[if_pos hc] at h0;cases h0
       ·exact h.go hx rfl rfl rfl rfl rfl (by rw[hn];simp[Fr.push]) (by rw[hn,← hpc];simp[Fr.push])
      ·split
       ·rename_i h9 h10 h11 h12 h13 h14;rw[if_neg h9,if_neg h10,if_neg h11,if_neg h12,if_neg h13,if_pos h14] at h0;have hn:xaN x k=⟨x.a+1,-x.a,[(k:Int)+1]⟩:=by unfold xaN;rw[if_neg (by omega),if_neg (by omega),if_pos h14]
        rw[hn] at hneed;simp only[] at hneed;have ha:=hx.send h14;unfold xcm at h0 ⊢;simp only[] at h0 ⊢
        split
        ·rename_i hc;rw[if_pos hc] at h0;exact absurd h0 hc
        ·exact h.go hx rfl rfl rfl rfl rfl (by rw[hn];simp only[List.length_append,List.length_dropLast,List.length_take,List.length_cons,List.length_nil,xbu];omega) (by rw[hn,← hpc];simp)
       ·split
        ·rename_i h9 h10 h11 h12 h13 h14 h15;rw[if_neg h9,if_neg h10,if_neg h11,if_neg h12,if_neg h13,if_neg h14,if_pos h15] at h0;have hn:xaN x k=⟨0,0,[x.a]⟩:=by unfold xaN;rw[if_neg (by omega),if_neg (by omega),if_neg (by omega),if_pos h15]
         rw[xhy h0]
         exact h.go hx rfl rfl rfl rfl rfl (by rw[hn];simp) (by rw[hn];simp)
        ·split
         ·rename_i h9 h10 h11 h12 h13 h14 h15 h16;rw[if_neg h9,if_neg h10,if_neg h11,if_neg h12,if_neg h13,if_neg h14,if_neg h15,if_pos h16] at h0;have hn:xaN x k=⟨1,-1,[(k:Int)+1,x.a]⟩:=by unfold xaN;rw[if_neg (by omega),if_neg (by omega),if_neg (by omega),if_neg (by omega),if_pos h16]
          rw[hn] at hneed;simp only[] at hneed;unfold xbr at h0 ⊢
          split
          ·exact h.go hx rfl rfl rfl rfl rfl (by rw[hn];simp[Fr.pop];omega) (by rw[hn,← hpc];simp[Fr.pop])
          ·rename_i k2;rw[if_neg k2] at h0
           split
           ·rename_i k1;rw[if_pos k1] at h0;rw[xhy h0]
            exact h.go hx rfl rfl rfl rfl rfl (by rw[hn];simp[Fr.pop];omega) (by rw[hn];simp[Fr.pop])
           ·rename_i k1;rw[if_neg k1] at h0
            cases h0
         ·exfalso;rename_i h9 h10 h11 h12 h13 h14 h15 h16;rw[if_neg h9,if_neg h10,if_neg h11,if_neg h12,if_neg h13,if_neg h14,if_neg h15,if_neg h16] at h0;unfold xcl at h0;rw[if_pos h.fast] at h0
          cases h0
section
variable {σ:Type}
def muE (m:Mc σ)(f:Fr):Nat:=(if f.fast then 302*(f.meth.code.length+1) else 0)+(301-m.turns).toNat*(f.code.length+1)+(f.code.length-f.pc.toNat)
theorem xoz {m m':Mc σ}{f f':Fr}(ht:m.turns<=m'.turns)(e1:f'.fast=f.fast)(e2:f'.meth=f.meth)(e3:f'.code=f.code)(h0:0<=f.pc)(hl:f.pc.toNat<f.code.length)(hp:f.pc<f'.pc):muE m' f'<muE m f:=by
 unfold muE;rw[e1,e2,e3];have h1:(301-m'.turns).toNat*(f.code.length+1)<=(301-m.turns).toNat*(f.code.length+1):=Nat.mul_le_mul_right _ (by omega)
 omega
theorem xnp {m m':Mc σ}{f f':Fr}(ht:m'.turns=m.turns+1)(h300:m'.turns<=300)(e1:f'.fast=f.fast)(e2:f'.meth=f.meth)(e3:f'.code=f.code):muE m' f'<muE m f:=by
 unfold muE;rw[e1,e2,e3];have h1:(301-m.turns).toNat=(301-m'.turns).toNat+1:=by omega
 rw[h1,Nat.add_mul,Nat.one_mul]
 omega
theorem xmk {m:Mc σ}{f:Fr}(h0:0<=m.turns)(hf:f.fast=true)(c:Int):muE m (f.leave c)<muE m f:=by
 unfold muE;have e1:(f.leave c).fast=false:=rfl;have e2:(f.leave c).code=f.meth.code:=rfl;rw[e1,e2,hf];simp only[Bool.false_eq_true,if_false,if_true];have h1:(301-m.turns).toNat*(f.meth.code.length+1)<=301*(f.meth.code.length+1):=Nat.mul_le_mul_right _ (by omega)
 omega
theorem xkZ {m:Mc σ}{f:Fr}(h0:0<=m.turns):muE m f<=xeQ f:=by
 unfold muE xeQ;have h1:(301-m.turns).toNat*(f.code.length+1)<=301*(f.code.length+1):=Nat.mul_le_mul_right _ (by omega)
 split<;>omega
def xdy (ent:Ent σ):Prop:=∀ m c n s a,m.turns<=(ent m c n s a).1.turns
theorem xkE {m:Mc σ}{f:Fr}(h0:0<=f.pc)(hl:f.pc.toNat<f.code.length){f1:Fr}(e1:f1.fast=f.fast)(e2:f1.meth=f.meth)(e3:f1.code=f.code){b:Int}(he:(xaX m f1 f.pc b).2.2=0):muE (xaX m f1 f.pc b).1 (xaX m f1 f.pc b).2.1<muE m f:=by
 unfold xaX at he ⊢
 by_cases hb:b<=f.pc
 ·simp only[hb,if_true] at he ⊢
  by_cases h:300<m.turns+1
  ·rw[if_pos h] at he;cases he
  ·rw[if_neg h]
   exact xnp rfl (by simp only[];omega) e1 e2 e3
 ·simp only[hb,if_false] at he ⊢
  by_cases h:300<m.turns
  ·rw[if_pos h] at he;cases he
  ·rw[if_neg h]
   exact xoz (Int.le_refl _) e1 e2 e3 h0 hl (by simp only[];omega)
theorem xhK {ent:Ent σ}(ht:xdy ent){E:Env σ}{d:Nat}{m:Mc σ}{f:Fr}(hm:0<=m.turns)(h0:0<=f.pc)(hl:f.pc.toNat<f.code.length){x:QI}(he:(xan ent E d m { f with pc:=f.pc+1 } f.pc x).2.2=0):muE (xan ent E d m { f with pc:=f.pc+1 } f.pc x).1 (xan ent E d m { f with pc:=f.pc+1 } f.pc x).2.1<muE m f:=by
 have on:∀ {m':Mc σ} {f':Fr},m.turns<=m'.turns->f'.fast=f.fast->f'.meth=f.meth->f'.code=f.code->f'.pc=f.pc+1->muE m' f'<muE m f:=fun a b c d e=>xoz a b c d h0 hl (by omega)
 unfold xan at he ⊢
 split
 ·exact on (Int.le_refl _) rfl rfl rfl rfl
 ·rename_i e;rw[e] at he;simp only[] at he
  split
  ·exact on (Int.le_refl _) rfl rfl rfl rfl
  ·split
   ·exact on (Int.le_refl _) rfl rfl rfl rfl
   ·split
    ·exact on (Int.le_refl _) rfl rfl rfl rfl
    ·split
     ·exact on (Int.le_refl _) rfl rfl rfl rfl
     ·split
      ·rename_i h9 h10 h11 h12 h13;rw[if_neg h9,if_neg h10,if_neg h11,if_neg h12,if_pos h13] at he;unfold xbQ at he ⊢
       split
       ·rename_i hc;rw[if_pos hc] at he;cases he
       ·exact on (Int.le_refl _) rfl rfl rfl rfl
      ·split
       ·rename_i h9 h10 h11 h12 h13 h14;rw[if_neg h9,if_neg h10,if_neg h11,if_neg h12,if_neg h13,if_pos h14] at he;unfold xcm at he ⊢;simp only[] at he ⊢
        split
        ·rename_i hc;rw[if_pos hc] at he;exact absurd he hc
        ·exact on (ht _ _ _ _ _) rfl rfl rfl rfl
       ·split
        ·rename_i h9 h10 h11 h12 h13 h14 h15;rw[if_neg h9,if_neg h10,if_neg h11,if_neg h12,if_neg h13,if_neg h14,if_pos h15] at he
         exact xkE (f1:={ f with pc:=f.pc+1 }) h0 hl rfl rfl rfl he
        ·split
         ·rename_i h9 h10 h11 h12 h13 h14 h15 h16;rw[if_neg h9,if_neg h10,if_neg h11,if_neg h12,if_neg h13,if_neg h14,if_neg h15,if_pos h16] at he;unfold xbr at he ⊢
          split
          ·exact on (Int.le_refl _) rfl rfl rfl rfl
          ·rename_i k2;rw[if_neg k2] at he
           split
           ·rename_i k1;rw[if_pos k1] at he
            exact xkE (f1:=Fr.pop { f with pc:=f.pc+1 }) h0 hl rfl rfl rfl he
           ·rename_i k1;rw[if_neg k1] at he
            cases he
         ·rename_i h9 h10 h11 h12 h13 h14 h15 h16;rw[if_neg h9,if_neg h10,if_neg h11,if_neg h12,if_neg h13,if_neg h14,if_neg h15,if_neg h16] at he;unfold xcl at he ⊢
          split
          ·rename_i k;rw[if_pos k] at he;cases he
          ·rename_i hfast;have hfast':f.fast=true:=by simpa using hfast
           split
           ·simp only[]
            split
            ·exact on (Int.le_refl _) rfl rfl rfl rfl
            ·have:=xmk (m:=m) (f:={ f with pc:=f.pc+1 }) hm hfast' x.c
             have h2:muE m { f with pc:=f.pc+1 }<muE m f:=on (Int.le_refl _) rfl rfl rfl rfl
             omega
           ·split
            ·exact on (Int.le_refl _) rfl rfl rfl rfl
            ·split
             ·exact on (Int.le_refl _) rfl rfl rfl rfl
             ·split
              ·refine on ?_ rfl rfl rfl rfl;simp only[xay]
               split
               ·exact Int.le_refl _
               ·split
                ·exact Int.le_refl _
                ·exact Int.le_refl _
              ·exact on (Int.le_refl _) rfl rfl rfl rfl
theorem xf8 (m:Mc σ)(f:Fr)(a b:Int):m.turns<=(xaX m f a b).1.turns:=by
 unfold xaX
 by_cases h:b<=a
 ·simp only[h,if_true]
  split<;>(simp only[];omega)
 ·simp only[h,if_false]
  split<;>exact Int.le_refl _
theorem xfo (E:Env σ)(d:Nat)(m:Mc σ):(xay E d m).1.turns=m.turns:=by
 unfold xay
 split
 ·rfl
 ·split<;>rfl
theorem xei {ent:Ent σ}(ht:xdy ent)(E:Env σ)(d:Nat)(m:Mc σ)(f:Fr)(a:Int)(x:QI):m.turns<=(xan ent E d m f a x).1.turns:=by
 unfold xan
 split
 ·exact Int.le_refl _
 ·split
  ·exact Int.le_refl _
  ·split
   ·exact Int.le_refl _
   ·split
    ·exact Int.le_refl _
    ·split
     ·exact Int.le_refl _
     ·split
      ·unfold xbQ
       split<;>exact Int.le_refl _
      ·split
       ·unfold xcm;simp only[]
        split
        ·exact ht { m with st:=_ } _ _ _ _
        ·exact ht { m with st:=_ } _ _ _ _
       ·split
        ·exact xf8 _ _ _ _
        ·split
         ·unfold xbr
          split
          ·exact Int.le_refl _
          ·split
           ·exact xf8 _ _ _ _
           ·exact Int.le_refl _
         ·unfold xcl
          split
          ·exact Int.le_refl _
          ·split
           ·exact Int.le_refl _
           ·split
            ·exact Int.le_refl _
            ·split
             ·exact Int.le_refl _
             ·split
              ·exact Int.le_of_eq (xfo E d m).symm
              ·exact Int.le_refl _
theorem xhv {ent:Ent σ}(ht:xdy ent)(E:Env σ)(d:Nat):∀ (g:Nat) (m:Mc σ) (f:Fr),m.turns<=(xcL ent E d g m f).1.turns
 | 0,m,f=>Int.le_refl _
 | g+1,m,f=>by
  unfold xcL;generalize (if f.pc<0 then none else f.code[f.pc.toNat]?)=q
  cases q with
  | none=>exact Int.le_refl _
  | some x=>
   simp only[]
   split
   ·exact Int.le_refl _
   ·have h1:=xei ht E d m { f with pc:=f.pc+1 } f.pc x
    split
    ·exact h1
    ·exact Int.le_trans h1 (xhv ht E d g _ _)
theorem xe0 (E:Env σ)(d:Nat){body:Mc σ->Fr->Mc σ × QV × Int}(hb:∀ m f,m.turns<=(body m f).1.turns):xdy (xbj E d body):=by
 intro m c n s a;unfold xbj
 cases xaO E.cz c n with
 | none=>exact Int.le_refl _
 | some mt=>
  simp only[]
  split
  ·exact Int.le_refl _
  ·split
   ·split<;>exact Int.le_refl _
   ·split
    ·exact Int.le_refl _
    ·have h1:=xfo E d m;have h2:=hb (xay E d m).1 (xaG E c n mt s a)
     omega
theorem xcU (E:Env σ):∀ d:Nat,xdy (xa1 E d)
 | 0=>xe0 E 0 fun m f=>Int.le_refl _
 | d+1=>xe0 E (d+1) fun m f=>xhv (xcU E d) E d _ m f
theorem xfT {X:QW}(h:xaJ X=0){c n:Int}{m:QM}(hm:xaO X.cz c n=some m):(m.prim≠0/\m.args=1)\/(m.prim=0/\∃ S N:Int,wmE X.cz.length c m=0/\(∀ x∈m.code,xgk S N m x=0)/\(xaH m.code).2.1=0):=by
 obtain⟨hs,-,hk,-⟩:=xbE h;unfold xaO at hm
 cases hx:xby X.cz c with
 | none=>rw[hx] at hm;cases hm
 | some x=>
  rw[hx] at hm;simp only[Option.bind_some] at hm;obtain⟨k,rfl,hx'⟩:=xbn hx
  split at hm
  ·have hr:=hk k x (xae hx') hx';unfold rkE at hr
   split at hr
   ·cases hr
   ·split at hr
    ·cases hr
    ·have hq:=xbH hr _ _ hm;unfold rmE at hq
     split at hq
     ·cases hq
     ·split at hq
      ·rename_i hp
       left
       unfold xgz at hp;rw[List.any_eq_true] at hp;obtain⟨p,hpm,hp⟩:=hp;simp only[Bool.and_eq_true,decide_eq_true_eq] at hp;refine⟨?_,hp.1.1.2⟩;rw[← hp.1.1.1.2]
       have:∀ q∈xfw,q.prim≠0:=by
        intro q hq
        simp[xfw] at hq
        rcases hq with rfl | rfl | rfl | rfl | rfl<;>decide
       exact this p hpm
      ·right
       unfold xdY at hq
       split at hq
       ·rename_i a;exact absurd hq a
       ·rename_i a;have hw:wmE X.cz.length k m=0:=Decidable.of_not_not a
        split at hq
        ·rename_i f e;exact absurd hq (xgi e)
        ·rename_i e;refine⟨?_,_,_,hw,xgm e,hq⟩;unfold wmE at hw
         split at hw
         ·cases hw
         ·split at hw
          ·cases hw
          ·split at hw
           ·cases hw
           ·split at hw
            ·cases hw
            ·rename_i hp;exact Decidable.of_not_not hp
  ·cases hm
theorem xl9 {X:QW}(h:xaJ X=0){c n:Int}{m:QM}(hm:xaO X.cz c n=some m)(hp:m.prim=0){a:List QV}(ha:m.args=a.length)(s:QV){E:Env σ}(hq:E.quick c n=none):PlOk (xaG E c n m s a):=by
 rcases xfT h hm with ⟨hp',-⟩ | ⟨-,S,N,hw,hn,hh⟩
 ·exact absurd hp hp'
 ·obtain⟨hw1,hw2,hw3,-,-,-⟩:=xiV hw;have hso:xc5 m.code:=fun y hy=>xdW (hn y hy)
  obtain⟨-,h1,h2,-⟩:=xf3 hso hh;have hfr:xaG E c n m s a=⟨c,m,s,a,xaQ m.temps,[],m.code,0,false⟩:=by unfold xaG;rw[hq]
  rw[hfr];refine⟨rfl,rfl,⟨S,N,hn⟩,hh,ha.symm,?_,0,rfl,h1,?_⟩
  ·simp only[xaQ,List.length_replicate];omega
  ·rw[h2];rfl
end
end Go.Proofs.YtapbeiccodnniaaGreat
