/- A part. -/
import Derived.Test.YtapbeiccodnniaaGreatM1
namespace Go.Proofs.YtapbeiccodnniaaGreat
open Go.ChangeShapes Go.WideShapes Go.ChangeAt Go.RowKit
set_option linter.unusedSimpArgs false
set_option linter.unusedVariables false
set_option maxHeartbeats 8000000
set_option maxRecDepth 8000
theorem xex {h h':Int}{v:QV}(hv:xas h v=0)(hh:h<=h'):xas h' v=0:=by
 unfold xas xch at hv ⊢
 split at hv
 ·cases hv
 ·split at hv
  ·rename_i a b;rw[if_neg a,if_pos b];exact hv
  ·split at hv
   ·rename_i a b c;rw[if_neg a,if_neg b,if_pos c];exact hv
   ·rename_i a b c;rw[if_neg a,if_neg b,if_neg c]
    split at hv
    ·cases hv
    ·rename_i d;rw[if_neg (by omega)]
theorem xaT (h:Int):xas h xaU=0:=by simp[xas,xch]
def VsOk (h:Int)(l:List QV):Prop:=∀ v∈l,xas h v=0
theorem VsOk.later {h h':Int}{l:List QV}(hl:VsOk h l)(hh:h<=h'):VsOk h' l:=fun v hv=>xex (hl v hv) hh
theorem VsOk.entry {h:Int}{l:List QV}(hl:VsOk h l)(n:Int):xas h (xaM l n)=0:=by
 unfold xaM
 split
 ·exact xaT h
 ·cases hq:l[n.toNat]? with
  | none=>exact xaT h
  | some v=>exact hl v (List.mem_of_getElem? hq)
theorem VsOk.setEntry {h:Int}{l:List QV}(hl:VsOk h l)(n:Int){x:QV}(hx:xas h x=0):VsOk h (xaV l n x):=by
 unfold xaV
 split
 ·exact hl
 ·intro v hv
  rcases List.mem_or_eq_of_mem_set hv with h1 | rfl
  ·exact hl v h1
  ·exact hx
theorem xcd (l:List QV)(n:Int)(x:QV):(xaV l n x).length=l.length:=by unfold xaV;split<;>simp
theorem VsOk.append {h:Int}{l:List QV}(hl:VsOk h l){x:QV}(hx:xas h x=0):VsOk h (l++[x]):=fun v hv=>by
 simp at hv
 rcases hv with h1 | rfl
 ·exact hl v h1
 ·exact hx
theorem VsOk.sub {h:Int}{l k:List QV}(hl:VsOk h l)(hk:∀ v∈k,v∈l):VsOk h k:=fun v hv=>hl v (hk v hv)
theorem xc8 (h n:Int):VsOk h (xaQ n):=fun v hv=>by
 unfold xaQ at hv;rw[(List.mem_replicate.1 hv).2]
 exact xaT h
structure HOk (cs:List QC)(h:List QO):Prop where
 len:h.length<=60
 obj:∀ o∈h,xbP cs.length o.cls=true/\(o.slots.length:Int)=xa8 cs o.cls/\VsOk h.length o.slots
theorem xes {h:List QO}{v:QV}{o:QO}(e:xdt h v=some o):h[v.n.toNat]?=some o:=by
 unfold xdt at e
 split at e
 ·exact e
 ·cases e
theorem HOk.slot {cs:List QC}{h:List QO}(hh:HOk cs h)(v:QV)(n:Int):xas h.length (xcV h v n)=0:=by
 unfold xcV
 cases e:xdt h v with
 | none=>exact xaT _
 | some o=>exact (hh.obj o (List.mem_of_getElem? (xes e))).2.2.entry n
theorem xbX (h:List QO)(v:QV)(n:Int)(x:QV):(xaR h v n x).length=h.length:=by unfold xaR;split<;>simp
theorem HOk.setSlot {cs:List QC}{h:List QO}(hh:HOk cs h)(v:QV)(n:Int){x:QV}(hx:xas h.length x=0):HOk cs (xaR h v n x):=by
 refine⟨by rw[xbX];exact hh.len,fun o ho=>?_⟩
 rw[xbX];unfold xaR at ho
 split at ho
 ·exact hh.obj o ho
 ·rename_i p e
  rcases List.mem_or_eq_of_mem_set ho with h1 | rfl
  ·exact hh.obj o h1
  ·obtain⟨a,b,c⟩:=hh.obj p (List.mem_of_getElem? (xes e))
   exact⟨a,by simp only[xcd];exact b,c.setEntry n hx⟩
theorem HOk.make {cs:List QC}{h:List QO}(hh:HOk cs h){c:Int}(hc:xbP cs.length c=true){k:Nat}(hk:(k:Int)=xa8 cs c)(hl:h.length<60):HOk cs (h++[⟨c,List.replicate k xaU⟩]):=by
 refine⟨by simp;omega,fun o ho=>?_⟩
 simp only[List.length_append,List.length_cons,List.length_nil,List.mem_append,List.mem_singleton] at ho ⊢
 rcases ho with h1 | rfl
 ·obtain⟨a,b,d⟩:=hh.obj o h1
  exact⟨a,b,d.later (by omega)⟩
 ·exact⟨hc,by simpa using hk,fun v hv=>by rw[(List.mem_replicate.1 hv).2];exact xaT _⟩
def xhm (cs:List QC)(l:List QI):Prop:=∀ x∈l,(x.op=5->-1073741824<=x.a/\x.a<=1073741824)/\(x.op=13->xbP cs.length x.a=true)
structure FOk (cs:List QC)(h:Int)(f:Fr):Prop where
 self:xas h f.self=0
 args:VsOk h f.args
 temps:VsOk h f.temps
 stack:VsOk h f.stack
 code:xhm cs f.code
 plain:xhm cs f.meth.code
theorem FOk.later {cs:List QC}{h h':Int}{f:Fr}(hf:FOk cs h f)(hh:h<=h'):FOk cs h' f:=⟨xex hf.self hh,hf.args.later hh,hf.temps.later hh,hf.stack.later hh,hf.code,hf.plain⟩
theorem FOk.push {cs:List QC}{h:Int}{f:Fr}(hf:FOk cs h f){v:QV}(hv:xas h v=0):FOk cs h (f.push v):=⟨hf.self,hf.args,hf.temps,hf.stack.append hv,hf.code,hf.plain⟩
theorem FOk.pop {cs:List QC}{h:Int}{f:Fr}(hf:FOk cs h f):FOk cs h f.pop:=⟨hf.self,hf.args,hf.temps,hf.stack.sub fun v hv=>List.dropLast_subset _ hv,hf.code,hf.plain⟩
theorem FOk.top {cs:List QC}{h:Int}{f:Fr}(hf:FOk cs h f):xas h f.top=0:=hf.stack.entry _
theorem FOk.leave {cs:List QC}{h:Int}{f:Fr}(hf:FOk cs h f)(c:Int):FOk cs h (f.leave c):=by
 refine⟨hf.self,hf.args,fun v hv=>?_,hf.stack,hf.plain,hf.plain⟩
 simp only[Fr.leave,List.mem_map] at hv;obtain⟨p,-,rfl⟩:=hv
 cases hq:f.temps[p.2]? with
 | none=>exact xaT h
 | some v=>exact hf.temps v (List.mem_of_getElem? hq)
section
variable {σ:Type}
structure EOk (E:Env σ):Prop where
 meths:∀ c n m,xaO E.cz c n=some m->xhm E.cz m.code
 fast:∀ c n q,E.quick c n=some q->xhm E.cz q.1
 slots:∀ c,xa8 E.cz c=xaP E.cz c/\0<=xaP E.cz c
structure ROk (cs:List QC)(m m':Mc σ):Prop where
 heap:HOk cs m'.heap
 more:m.heap.length<=m'.heap.length
def xjT (cs:List QC)(ent:Ent σ):Prop:=∀ m c n s a,HOk cs m.heap->xas m.heap.length s=0->VsOk m.heap.length a->ROk cs m (ent m c n s a).1/\xas (ent m c n s a).1.heap.length (ent m c n s a).2.1=0
def xe3 (cs:List QC)(m:Mc σ)(r:Mc σ × Fr × Int):Prop:=ROk cs m r.1/\(r.2.2=0->FOk cs r.1.heap.length r.2.1)
theorem xk5 {cs:List QC}{m:Mc σ}{f:Fr}(hm:HOk cs m.heap)(hf:FOk cs m.heap.length f)(a b:Int):xe3 cs m (xaX m f a b):=by
 have hf':∀ t,FOk cs m.heap.length { f with pc:=t }:=fun t=>⟨hf.self,hf.args,hf.temps,hf.stack,hf.code,hf.plain⟩
 unfold xaX xe3
 by_cases h:b<=a
 ·simp only[h,if_true]
  split
  ·exact⟨⟨hm,qzC _⟩,fun h=>by cases h⟩
  ·exact⟨⟨hm,qzC _⟩,fun _=>hf' b⟩
 ·simp only[h,if_false]
  split
  ·exact⟨⟨hm,qzC _⟩,fun h=>by cases h⟩
  ·exact⟨⟨hm,qzC _⟩,fun _=>hf' b⟩
theorem xof {cs:List QC}{m:Mc σ}{f:Fr}(hm:HOk cs m.heap)(hf:FOk cs m.heap.length f)(a b:Int):xe3 cs m (xbr m f a b):=by
 unfold xbr
 split
 ·exact⟨⟨hm,qzC _⟩,fun _=>hf.pop⟩
 ·split
  ·exact xk5 hm hf.pop a b
  ·exact⟨⟨hm,qzC _⟩,fun _=>hf⟩
theorem xnh {E:Env σ}(hE:EOk E){m:Mc σ}{f:Fr}(hm:HOk E.cz m.heap)(hf:FOk E.cz m.heap.length f){c:Int}(hc:xbP E.cz.length c=true):xe3 E.cz m (xbQ E m f c):=by
 unfold xbQ
 split
 ·exact⟨⟨hm,qzC _⟩,fun _=>hf⟩
 ·rename_i h;obtain⟨h1,h2⟩:=hE.slots c;refine⟨⟨hm.make hc (by rw[h1];omega) (by omega),by simp⟩,fun _=>?_⟩
  refine (hf.later ?_).push ?_
  ·simp only[List.length_append,List.length_cons,List.length_nil];omega
  ·simp only[List.length_append,List.length_cons,List.length_nil,xas,xch];rw[if_neg (by omega),if_neg (by omega),if_neg (by omega),if_neg (by omega)]
theorem xgh {cs:List QC}(E:Env σ)(d:Nat){m:Mc σ}(hm:HOk cs m.heap):ROk cs m (xay E d m).1/\(xay E d m).1.heap=m.heap:=by
 unfold xay
 split
 ·exact⟨⟨hm,qzC _⟩,rfl⟩
 ·split
  ·exact⟨⟨hm,qzC _⟩,rfl⟩
  ·exact⟨⟨hm,qzC _⟩,rfl⟩
theorem xm8 {cs:List QC}(E:Env σ)(d:Nat){m:Mc σ}{f:Fr}(hm:HOk cs m.heap)(hf:FOk cs m.heap.length f)(x:QI):xe3 cs m (xcl E d m f x):=by
 unfold xcl
 split
 ·exact⟨⟨hm,qzC _⟩,fun h=>by cases h⟩
 ·split
  ·refine⟨⟨hm,qzC _⟩,fun _=>?_⟩
   simp only[]
   split
   ·exact hf
   ·exact hf.leave x.c
  ·split
   ·exact⟨⟨hm,qzC _⟩,fun _=>hf.push (hm.slot _ _)⟩
   ·split
    ·refine⟨⟨hm.setSlot _ _ hf.top,by simp[xbX]⟩,fun _=>?_⟩
     simp only[xbX]
     exact hf.pop
    ·split
     ·obtain⟨h1,h2⟩:=xgh (cs:=cs) E d hm;refine⟨h1,fun _=>?_⟩
      simp only[h2]
      exact hf
     ·exact⟨⟨hm,qzC _⟩,fun h=>by cases h⟩
theorem xnc {cs:List QC}{ent:Ent σ}(he:xjT cs ent)(E:Env σ){m:Mc σ}{f:Fr}(hm:HOk cs m.heap)(hf:FOk cs m.heap.length f)(at':Int)(x:QI):xe3 cs m (xcm ent E m f at' x):=by
 unfold xcm;simp only[];generalize E.look m.st (f.site at' x) (xar m.heap (xaW (f.stack.take (xbu f.stack x.a)) 0)) x.name=l;have ht:VsOk m.heap.length (f.stack.take (xbu f.stack x.a)):=hf.stack.sub fun v hv=>List.mem_of_mem_take hv
 obtain⟨h1,h2⟩:=he { m with st:=l.1 } l.2.1 l.2.2 (xaW (f.stack.take (xbu f.stack x.a)) 0) (f.stack.drop (xbu f.stack x.a)) hm (ht.entry _) (hf.stack.sub fun v hv=>List.mem_of_mem_drop hv)
 generalize ent { m with st:=l.1 } l.2.1 l.2.2 (xaW (f.stack.take (xbu f.stack x.a)) 0) (f.stack.drop (xbu f.stack x.a))=r at h1 h2 ⊢
 have hmore:m.heap.length<=r.1.heap.length:=h1.more
 split
 ·rename_i h;exact⟨⟨h1.heap,hmore⟩,fun h'=>absurd h' h⟩
 ·refine⟨⟨h1.heap,hmore⟩,fun _=>?_⟩
  have hf':=hf.later (h':=(r.1.heap.length:Int)) (by omega)
  have ht':VsOk (r.1.heap.length:Int) (f.stack.take (xbu f.stack x.a)):=ht.later (by omega)
  exact⟨hf'.self,hf'.args,hf'.temps,((ht'.sub fun v hv=>List.dropLast_subset _ hv).append h2),hf'.code,hf'.plain⟩
theorem xkY {cs:List QC}{h:List QO}{f:Fr}(hm:HOk cs h)(hf:FOk cs h.length f){x:QI}(hx:x.op=5->-1073741824<=x.a/\x.a<=1073741824){v:QV}(e:xaA h f x=some v):xas h.length v=0:=by
 unfold xaA at e
 split at e
 ·cases e;exact hf.self
 ·split at e
  ·cases e;exact hf.args.entry _
  ·split at e
   ·cases e;exact hf.temps.entry _
   ·split at e
    ·cases e;exact hm.slot _ _
    ·split at e
     ·rename_i h5
      cases e
      have:=hx h5;simp only[xas,xch];rw[if_neg (by omega),if_neg (by omega),if_pos trivial,if_neg (by omega)]
     ·split at e
      ·cases e;exact xaT _
      ·split at e
       ·cases e;simp[xas,xch]
       ·split at e
        ·cases e;simp[xas,xch]
        ·cases e
theorem xgl {E:Env σ}(hE:EOk E){ent:Ent σ}(he:xjT E.cz ent)(d:Nat){m:Mc σ}{f:Fr}(hm:HOk E.cz m.heap)(hf:FOk E.cz m.heap.length f)(at':Int){x:QI}(h5:x.op=5->-1073741824<=x.a/\x.a<=1073741824)(h13:x.op=13->xbP E.cz.length x.a=true):xe3 E.cz m (xan ent E d m f at' x):=by
 unfold xan
 split
 ·rename_i v e
  exact⟨⟨hm,qzC _⟩,fun _=>hf.push (xkY hm hf h5 e)⟩
 ·split
  ·exact⟨⟨hm,qzC _⟩,fun _=>hf.pop⟩
  ·split
   ·exact⟨⟨hm,qzC _⟩,fun _=>hf.push hf.top⟩
   ·split
    ·exact⟨⟨hm,qzC _⟩,fun _=>⟨hf.self,hf.args,hf.temps.setEntry _ hf.top,hf.pop.stack,hf.code,hf.plain⟩⟩
    ·split
     ·refine⟨⟨hm.setSlot _ _ hf.top,by simp[xbX]⟩,fun _=>?_⟩
      simp only[xbX]
      exact hf.pop
     ·split
      ·rename_i h;exact xnh hE hm hf (h13 h)
      ·split
       ·exact xnc he E hm hf at' x
       ·split
        ·exact xk5 hm hf at' x.a
        ·split
         ·exact xof hm hf at' x.a
         ·exact xm8 E d hm hf x
theorem ROk.trans {cs:List QC}{a b c:Mc σ}(h:ROk cs a b)(k:ROk cs b c):ROk cs a c:=⟨k.heap,qzD h.more k.more⟩
theorem xmE {E:Env σ}(hE:EOk E){ent:Ent σ}(he:xjT E.cz ent)(d:Nat):∀ (g:Nat) {m:Mc σ} {f:Fr},HOk E.cz m.heap->FOk E.cz m.heap.length f->ROk E.cz m (xcL ent E d g m f).1/\xas (xcL ent E d g m f).1.heap.length (xcL ent E d g m f).2.1=0
 | 0,m,f,hm,hf=>⟨⟨hm,qzC _⟩,xaT _⟩
 | g+1,m,f,hm,hf=>by
  unfold xcL
  cases hq:(if f.pc<0 then none else f.code[f.pc.toNat]?) with
  | none=>exact⟨⟨hm,qzC _⟩,xaT _⟩
  | some x=>
   have hx:x∈f.code:=by
    split at hq
    ·cases hq
    ·exact List.mem_of_getElem? hq
   simp only[]
   by_cases h17:x.op=17
   ·rw[if_pos h17];exact⟨⟨hm,qzC _⟩,hf.top⟩
   ·rw[if_neg h17];have hf1:FOk E.cz m.heap.length { f with pc:=f.pc+1 }:=⟨hf.self,hf.args,hf.temps,hf.stack,hf.code,hf.plain⟩
    obtain⟨h1,h2⟩:=xgl hE he d hm hf1 f.pc (hf.code x hx).1 (hf.code x hx).2;generalize xan ent E d m { f with pc:=f.pc+1 } f.pc x=r at h1 h2 ⊢
    by_cases h0:r.2.2≠0
    ·rw[if_pos h0];exact⟨h1,xaT _⟩
    ·rw[if_neg h0];obtain⟨k1,k2⟩:=xmE hE he d g h1.heap (h2 (by simpa using h0))
     exact⟨h1.trans k1,k2⟩
theorem xju (h:Int){a b:QV}(p:Int):xas h (xbA p a b).1=0:=by
 have tm:∀ n:Int,-1073741824<=n.tmod 1073741825/\n.tmod 1073741825<=1073741824:=fun n=>by
  have h1:=Int.tmod_lt_of_pos n (b:=1073741825) (by omega)
  have h2:=Int.lt_tmod_of_pos n (b:=1073741825) (by omega)
  omega
 have num:∀ n:Int,xas h ⟨3,n.tmod 1073741825⟩=0:=fun n=>by
  have:=tm n;simp only[xas,xch];rw[if_neg (by omega),if_neg (by omega),if_pos trivial,if_neg (by omega)]
 have bol:∀ c:Prop,∀ _:Decidable c,xas h ⟨if c then 2 else 1,0⟩=0:=fun c _=>by
  by_cases hc:c<;>simp[hc,xas,xch]
 unfold xbA
 split
 ·exact xaT h
 ·split
  ·exact num _
  ·split
   ·exact num _
   ·split
    ·exact num _
    ·split
     ·exact bol _ _
     ·split
      ·exact bol _ _
      ·exact xaT h
theorem xiy {E:Env σ}(hE:EOk E)(d:Nat){body:Mc σ->Fr->Mc σ × QV × Int}(hb:∀ {m f},HOk E.cz m.heap->FOk E.cz m.heap.length f->ROk E.cz m (body m f).1/\xas (body m f).1.heap.length (body m f).2.1=0):xjT E.cz (xbj E d body):=by
 intro m c n s a hm hs ha;unfold xbj
 cases hmt:xaO E.cz c n with
 | none=>exact⟨⟨hm,qzC _⟩,xaT _⟩
 | some mt=>
  simp only[]
  split
  ·exact⟨⟨hm,qzC _⟩,xaT _⟩
  ·split
   ·split
    ·exact⟨⟨hm,qzC _⟩,xaT _⟩
    ·exact⟨⟨hm,qzC _⟩,xju _ _⟩
   ·split
    ·exact⟨⟨hm,qzC _⟩,xaT _⟩
    ·obtain⟨h1,h2⟩:=xgh (cs:=E.cz) E d hm
     have hf:FOk E.cz (xay E d m).1.heap.length (xaG E c n mt s a):=by
      rw[h2];have hmc:=hE.meths c n mt hmt;unfold xaG
      cases hq:E.quick c n with
      | none=>exact⟨hs,ha,xc8 _ _,fun v hv=>by simp at hv,hmc,hmc⟩
      | some q=>exact⟨hs,ha,xc8 _ _,fun v hv=>by simp at hv,hE.fast c n q hq,hmc⟩
     obtain⟨k1,k2⟩:=hb h1.heap hf
     exact⟨h1.trans k1,k2⟩
theorem xhl {E:Env σ}(hE:EOk E):∀ d:Nat,xjT E.cz (xa1 E d)
 | 0=>xiy hE 0 fun hm hf=>⟨⟨hm,qzC _⟩,xaT _⟩
 | d+1=>xiy hE (d+1) fun hm hf=>xmE hE (xhl hE d) d _ hm hf
theorem xgi {f:QI->Int}:∀ {l:List QI} {k:Nat} {p:Int × Int},xjw f k l=some p->p.1≠0
 | [],k,p,h=>by simp[xjw] at h
 | z :: r,k,p,h=>by
  unfold xjw at h
  split at h
  ·rename_i hz;cases h;exact hz
  ·exact xgi h
def xfk:Int->Int->Option (List QI × Int):=fun _ _=>none
theorem xdz {X:QW}(h:xaJ X=0):HOk X.cz X.heap:=by
 obtain⟨hs,-,-,ho⟩:=xbE h;refine⟨hs.heap,fun o hm=>?_⟩
 obtain⟨i,hi,rfl⟩:=List.mem_iff_getElem.1 hm;have hr:=ho i _ hi (List.getElem?_eq_getElem hi);unfold roE at hr
 split at hr
 ·cases hr
 ·rename_i hn;have hn':=not_or.1 hn;refine⟨by simpa using hn'.1,by simpa using hn'.2,fun v hv=>?_⟩
  obtain⟨k,hk,rfl⟩:=List.mem_iff_getElem.1 hv
  exact xbH hr k _ (List.getElem?_eq_getElem hk)
theorem xd1 {X:QW}(h:xaJ X=0):xbL X.cz:=fun i x hx=>by
 obtain⟨hs,hc,-,-⟩:=xbE h;have hr:=hc i x (xae hx) hx;unfold rcE at hr
 split at hr
 ·cases hr
 ·split at hr
  ·split at hr
   ·cases hr
   ·split at hr
    ·cases hr
    ·split at hr
     ·cases hr
     ·split at hr
      ·cases hr
      ·omega
  ·split at hr
   ·cases hr
   ·split at hr
    ·cases hr
    ·split at hr
     ·cases hr
     ·omega
theorem xhR {X:QW}(h:xaJ X=0)(c:Int):xa8 X.cz c=xaP X.cz c/\0<=xaP X.cz c:=by
 have ho:=xd1 h;obtain⟨hs,-,-,-⟩:=xbE h;have hm:=hs.many
 exact⟨xeH ho (by omega) c,(xcv ho (X.cz.length+1) c 0 (Int.le_refl _)).1⟩
theorem xjL {X:QW}(h:xaJ X=0){c n:Int}{m:QM}(hm:xaO X.cz c n=some m):xhm X.cz m.code:=by
 obtain⟨hs,-,hk,-⟩:=xbE h;unfold xaO at hm
 cases hx:xby X.cz c with
 | none=>rw[hx] at hm;cases hm
 | some x=>
  rw[hx] at hm;simp only[Option.bind_some] at hm;obtain⟨k,rfl,hx'⟩:=xbn hx
  split at hm
  ·have hr:=hk k x (xae hx') hx';unfold rkE at hr
   split at hr
   ·cases hr
   ·split at hr
    ·cases hr
    ·have hq:=xbH hr _ _ hm;unfold rmE at hq
     split at hq
     ·cases hq
     ·split at hq
      ·rename_i hp;unfold xgz at hp;rw[List.any_eq_true] at hp;obtain⟨p,-,hp⟩:=hp;simp only[Bool.and_eq_true,decide_eq_true_eq] at hp;have:m.code=[]:=List.eq_nil_of_length_eq_zero hp.2;rw[this];intro y hy
       simp at hy
      ·unfold xdY at hq
       split at hq
       ·rename_i a;exact absurd hq a
       ·split at hq
        ·rename_i f e
         exact absurd hq (xgi e)
        ·rename_i e;intro y hy;have hn:=xgm e y hy;unfold xgk at hn
         split at hn
         ·cases hn
         ·split at hn
          ·cases hn
          ·rename_i hra;unfold raE at hra;refine⟨fun h5=>?_,fun h13=>?_⟩
           ·simp[h5,inR] at hra
            omega
           ·simp[h13,inR] at hra
            simp[xbP]
            omega
  ·cases hm
theorem xeM {X:QW}(h:xaJ X=0)(fuel:Int)(look:σ->QS->Int->ByteArray->σ × (Int × Int)):EOk (⟨X.cz,fuel,look,xfk⟩:Env σ):=
 ⟨fun c n m hm=>xjL h hm,fun c n q hq=>(by cases hq),fun c=>xhR h c⟩
end
structure PlOk (f:Fr):Prop where
 fast:f.fast=false
 code:f.code=f.meth.code
 nums:∃ S n,∀ x∈f.code,xgk S n f.meth x=0
 hts:(xaH f.code).2.1=0
 args:(f.args.length:Int)=f.meth.args
 temps:(f.temps.length:Int)=f.meth.temps
 pc:∃ k:Nat,f.pc=k/\k<f.code.length/\(f.stack.length:Int)=(xaH f.code).1.getD k 0
theorem xkn {S n:Int}{m:QM}{x:QI}(h:xgk S n m x=0):1<=x.op/\x.op<=17/\(x.op=2->0<=x.a/\x.a<m.args)/\(x.op=3\/x.op=11->0<=x.a/\x.a<m.temps)/\(x.op=14->0<=x.a/\x.a<=4)/\x.b=0/\x.c=0:=by
 have h14:=xdW h;unfold xgk at h
 split at h
 ·cases h
 ·rename_i h1
  split at h
  ·cases h
  ·rename_i hra
   split at h
   ·cases h
   ·rename_i hr
    simp[inR] at h1
    refine⟨by omega,by omega,fun h2=>?_,fun h3=>?_,h14,by omega,by omega⟩
    ·simp[raE,h2,inR] at hra;omega
    ·rcases h3 with h3 | h3<;>(simp[raE,h3,inR] at hra;omega)
structure NxOk (f:Fr)(k:Nat)(x:QI):Prop where
 pc:f.pc=k
 lt:k<f.code.length
 here:f.code[k]?=some x
 need:(xaN x k).need<=f.stack.length
 back:x.op=17->f.stack.length=1
 few:f.stack.length<=12
 next:∀ t∈(xaN x k).next,∃ j:Nat,t=(j:Int)/\j<f.code.length/\(xaH f.code).1.getD j 0=f.stack.length+(xaN x k).more
 kind:1<=x.op/\x.op<=17
 arg:x.op=2->0<=x.a/\x.a<f.args.length
 temp:x.op=3\/x.op=11->0<=x.a/\x.a<f.temps.length
 send:x.op=14->0<=x.a/\x.a<=4
 zero:x.b=0/\x.c=0
theorem PlOk.nx {f:Fr}(h:PlOk f):∃ k x,NxOk f k x:=by
 obtain⟨S,n,hn⟩:=h.nums;obtain⟨k,hk,hlt,hs⟩:=h.pc;have hx:f.code[k]?=some f.code[k]:=List.getElem?_eq_getElem hlt;have hso:xc5 f.code:=fun y hy=>xdW (hn y hy)
 obtain⟨-,-,-,hat⟩:=xf3 hso h.hts;obtain⟨h1,h2,h3,h4⟩:=hat k _ hx (by omega)
 obtain⟨n1,n2,n3,n4,n5,n6,n7⟩:=xkn (hn f.code[k] (List.getElem_mem hlt));rw[← h.args] at n3;rw[← h.temps] at n4;refine⟨k,f.code[k],hk,hlt,hx,by omega,fun h17=>by have:=h3 h17;omega,by omega,fun t ht=>?_,⟨n1,n2⟩,n3,n4,n5,⟨n6,n7⟩⟩
 obtain⟨j,j1,j2,j3⟩:=h4 t ht
 exact⟨j,j1,j2,by omega⟩
theorem PlOk.go {f f':Fr}(h:PlOk f){k:Nat}{x:QI}(hx:NxOk f k x)(e1:f'.meth=f.meth)(e2:f'.args=f.args)(e3:f'.code=f.code)(e4:f'.fast=f.fast)(e5:f'.temps.length=f.temps.length)(e6:(f'.stack.length:Int)=f.stack.length+(xaN x k).more)(e7:f'.pc∈(xaN x k).next):PlOk f':=by
 obtain⟨j,j1,j2,j3⟩:=hx.next _ e7;refine⟨e4.trans h.fast,by rw[e3,e1];exact h.code,by rw[e3,e1];exact h.nums,by rw[e3];exact h.hts,by rw[e2,e1];exact h.args,by rw[e5,e1];exact h.temps,j,j1,by rw[e3];exact j2,by rw[e3,j3];exact e6⟩
theorem xhy {σ:Type}{m:Mc σ}{f:Fr}{a b:Int}(h0:(xaX m f a b).2.2=0):(xaX m f a b).2.1={ f with pc:=b }:=by
 unfold xaX at h0 ⊢;simp only[] at h0 ⊢;generalize (if b<=a then { m with turns:=m.turns+1 } else m:Mc σ)=m' at h0 ⊢
 by_cases h:300<m'.turns
 ·rw[if_pos h] at h0;cases h0
 ·rw[if_neg h]
theorem xfQ {h:List QO}{f:Fr}{x:QI}{v:QV}(e:xaA h f x=some v):1<=x.op/\x.op<=8:=by
 unfold xaA at e
 split at e
 ·omega
 ·split at e
  ·omega
  ·split at e
   ·omega
   ·split at e
    ·omega
    ·split at e
     ·omega
     ·split at e
      ·omega
      ·split at e
       ·omega
       ·split at e
        ·omega
        ·cases e
theorem xn7 {σ:Type}{ent:Ent σ}{E:Env σ}{d:Nat}{m:Mc σ}{f:Fr}(h:PlOk f){k:Nat}{x:QI}(hx:NxOk f k x)(h17:x.op≠17)(h0:(xan ent E d m { f with pc:=f.pc+1 } f.pc x).2.2=0):PlOk (xan ent E d m { f with pc:=f.pc+1 } f.pc x).2.1:=by
 have hpc:=hx.pc;have hneed:=hx.need;have hkind:=hx.kind;unfold xan at h0 ⊢
 split
 ·rename_i v e;have ho:=xfQ e
  have hn:xaN x k=⟨0,1,[(k:Int)+1]⟩:=by
   unfold xaN;rw[if_neg (by omega),if_neg (by omega),if_neg (by omega),if_neg (by omega),if_neg (by omega),if_neg (by omega)]
  exact h.go hx rfl rfl rfl rfl rfl (by rw[hn];simp[Fr.push]) (by rw[hn,← hpc];simp[Fr.push])
 ·rename_i e;rw[e] at h0;simp only[] at h0
  split
  ·rename_i h9;have hn:xaN x k=⟨1,-1,[(k:Int)+1]⟩:=by unfold xaN;rw[if_pos (by omega)]
   rw[hn] at hneed;simp only[] at hneed
   exact h.go hx rfl rfl rfl rfl rfl (by rw[hn];simp[Fr.pop];omega) (by rw[hn,← hpc];simp[Fr.pop])
  ·split
   ·rename_i h9 h10;have hn:xaN x k=⟨1,1,[(k:Int)+1]⟩:=by unfold xaN;rw[if_neg (by omega),if_pos h10]
    exact h.go hx rfl rfl rfl rfl rfl (by rw[hn];simp[Fr.push]) (by rw[hn,← hpc];simp[Fr.push])
   ·split
    ·rename_i h9 h10 h11;have hn:xaN x k=⟨1,-1,[(k:Int)+1]⟩:=by unfold xaN;rw[if_pos (by omega)]
     rw[hn] at hneed;simp only[] at hneed
     exact h.go hx rfl rfl rfl rfl (by simp[xcd]) (by rw[hn];simp[Fr.pop];omega) (by rw[hn,← hpc];simp[Fr.pop])
    ·split
     ·rename_i h9 h10 h11 h12;have hn:xaN x k=⟨1,-1,[(k:Int)+1]⟩:=by unfold xaN;rw[if_pos (by omega)]
      rw[hn] at hneed;simp only[] at hneed
      exact h.go hx rfl rfl rfl rfl rfl (by rw[hn];simp[Fr.pop];omega) (by rw[hn,← hpc];simp[Fr.pop])
     ·split
      ·rename_i h9 h10 h11 h12 h13;rw[if_neg h9,if_neg h10,if_neg h11,if_neg h12,if_pos h13] at h0
       have hn:xaN x k=⟨0,1,[(k:Int)+1]⟩:=by
        unfold xaN;rw[if_neg (by omega),if_neg (by omega),if_neg (by omega),if_neg (by omega),if_neg (by omega),if_neg (by omega)]
       unfold xbQ at h0 ⊢
       split
       ·rename_i hc;rw[if_pos hc] at h0;cases h0
       ·exact h.go hx rfl rfl rfl rfl rfl (by rw[hn];simp[Fr.push]) (by rw[hn,← hpc];simp[Fr.push])
      ·split
       ·rename_i h9 h10 h11 h12 h13 h14;rw[if_neg h9,if_neg h10,if_neg h11,if_neg h12,if_neg h13,if_pos h14] at h0;have hn:xaN x k=⟨x.a+1,-x.a,[(k:Int)+1]⟩:=by unfold xaN;rw[if_neg (by omega),if_neg (by omega),if_pos h14]
        rw[hn] at hneed;simp only[] at hneed;have ha:=hx.send h14;unfold xcm at h0 ⊢;simp only[] at h0 ⊢
        split
        ·rename_i hc;rw[if_pos hc] at h0;exact absurd h0 hc
        ·exact h.go hx rfl rfl rfl rfl rfl (by rw[hn];simp only[List.length_append,List.length_dropLast,List.length_take,List.length_cons,List.length_nil,xbu];omega) (by rw[hn,← hpc];simp)
       ·split
        ·rename_i h9 h10 h11 h12 h13 h14 h15;rw[if_neg h9,if_neg h10,if_neg h11,if_neg h12,if_neg h13,if_neg h14,if_pos h15] at h0;have hn:xaN x k=⟨0,0,[x.a]⟩:=by unfold xaN;rw[if_neg (by omega),if_neg (by omega),if_neg (by omega),if_pos h15]
         rw[xhy h0]
         exact h.go hx rfl rfl rfl rfl rfl (by rw[hn];simp) (by rw[hn];simp)
        ·split
         ·rename_i h9 h10 h11 h12 h13 h14 h15 h16;rw[if_neg h9,if_neg h10,if_neg h11,if_neg h12,if_neg h13,if_neg h14,if_neg h15,if_pos h16] at h0;have hn:xaN x k=⟨1,-1,[(k:Int)+1,x.a]⟩:=by unfold xaN;rw[if_neg (by omega),if_neg (by omega),if_neg (by omega),if_neg (by omega),if_pos h16]
          rw[hn] at hneed;simp only[] at hneed;unfold xbr at h0 ⊢
          split
          ·exact h.go hx rfl rfl rfl rfl rfl (by rw[hn];simp[Fr.pop];omega) (by rw[hn,← hpc];simp[Fr.pop])
          ·rename_i k2;rw[if_neg k2] at h0
           split
           ·rename_i k1;rw[if_pos k1] at h0;rw[xhy h0]
            exact h.go hx rfl rfl rfl rfl rfl (by rw[hn];simp[Fr.pop];omega) (by rw[hn];simp[Fr.pop])
           ·rename_i k1;rw[if_neg k1] at h0
            cases h0
         ·exfalso;rename_i h9 h10 h11 h12 h13 h14 h15 h16;rw[if_neg h9,if_neg h10,if_neg h11,if_neg h12,if_neg h13,if_neg h14,if_neg h15,if_neg h16] at h0;unfold xcl at h0;rw[if_pos h.fast] at h0
          cases h0
section
variable {σ:Type}
def muE (m:Mc σ)(f:Fr):Nat:=(if f.fast then 302*(f.meth.code.length+1) else 0)+(301-m.turns).toNat*(f.code.length+1)+(f.code.length-f.pc.toNat)
theorem xoz {m m':Mc σ}{f f':Fr}(ht:m.turns<=m'.turns)(e1:f'.fast=f.fast)(e2:f'.meth=f.meth)(e3:f'.code=f.code)(h0:0<=f.pc)(hl:f.pc.toNat<f.code.length)(hp:f.pc<f'.pc):muE m' f'<muE m f:=by
 unfold muE;rw[e1,e2,e3];have h1:(301-m'.turns).toNat*(f.code.length+1)<=(301-m.turns).toNat*(f.code.length+1):=Nat.mul_le_mul_right _ (by omega)
 omega
theorem xnp {m m':Mc σ}{f f':Fr}(ht:m'.turns=m.turns+1)(h300:m'.turns<=300)(e1:f'.fast=f.fast)(e2:f'.meth=f.meth)(e3:f'.code=f.code):muE m' f'<muE m f:=by
 unfold muE;rw[e1,e2,e3];have h1:(301-m.turns).toNat=(301-m'.turns).toNat+1:=by omega
 rw[h1,Nat.add_mul,Nat.one_mul]
 omega
theorem xmk {m:Mc σ}{f:Fr}(h0:0<=m.turns)(hf:f.fast=true)(c:Int):muE m (f.leave c)<muE m f:=by
 unfold muE;have e1:(f.leave c).fast=false:=rfl;have e2:(f.leave c).code=f.meth.code:=rfl;rw[e1,e2,hf];simp only[Bool.false_eq_true,if_false,if_true];have h1:(301-m.turns).toNat*(f.meth.code.length+1)<=301*(f.meth.code.length+1):=Nat.mul_le_mul_right _ (by omega)
 omega
theorem xkZ {m:Mc σ}{f:Fr}(h0:0<=m.turns):muE m f<=xeQ f:=by
 unfold muE xeQ;have h1:(301-m.turns).toNat*(f.code.length+1)<=301*(f.code.length+1):=Nat.mul_le_mul_right _ (by omega)
 split<;>omega
def xdy (ent:Ent σ):Prop:=∀ m c n s a,m.turns<=(ent m c n s a).1.turns
theorem xkE {m:Mc σ}{f:Fr}(h0:0<=f.pc)(hl:f.pc.toNat<f.code.length){f1:Fr}(e1:f1.fast=f.fast)(e2:f1.meth=f.meth)(e3:f1.code=f.code){b:Int}(he:(xaX m f1 f.pc b).2.2=0):muE (xaX m f1 f.pc b).1 (xaX m f1 f.pc b).2.1<muE m f:=by
 unfold xaX at he ⊢
 by_cases hb:b<=f.pc
 ·simp only[hb,if_true] at he ⊢
  by_cases h:300<m.turns+1
  ·rw[if_pos h] at he;cases he
  ·rw[if_neg h]
   exact xnp rfl (by simp only[];omega) e1 e2 e3
 ·simp only[hb,if_false] at he ⊢
  by_cases h:300<m.turns
  ·rw[if_pos h] at he;cases he
  ·rw[if_neg h]
   exact xoz (Int.le_refl _) e1 e2 e3 h0 hl (by simp only[];omega)
theorem xhK {ent:Ent σ}(ht:xdy ent){E:Env σ}{d:Nat}{m:Mc σ}{f:Fr}(hm:0<=m.turns)(h0:0<=f.pc)(hl:f.pc.toNat<f.code.length){x:QI}(he:(xan ent E d m { f with pc:=f.pc+1 } f.pc x).2.2=0):muE (xan ent E d m { f with pc:=f.pc+1 } f.pc x).1 (xan ent E d m { f with pc:=f.pc+1 } f.pc x).2.1<muE m f:=by
 have on:∀ {m':Mc σ} {f':Fr},m.turns<=m'.turns->f'.fast=f.fast->f'.meth=f.meth->f'.code=f.code->f'.pc=f.pc+1->muE m' f'<muE m f:=fun a b c d e=>xoz a b c d h0 hl (by omega)
 unfold xan at he ⊢
 split
 ·exact on (Int.le_refl _) rfl rfl rfl rfl
 ·rename_i e;rw[e] at he;simp only[] at he
  split
  ·exact on (Int.le_refl _) rfl rfl rfl rfl
  ·split
   ·exact on (Int.le_refl _) rfl rfl rfl rfl
   ·split
    ·exact on (Int.le_refl _) rfl rfl rfl rfl
    ·split
     ·exact on (Int.le_refl _) rfl rfl rfl rfl
     ·split
      ·rename_i h9 h10 h11 h12 h13;rw[if_neg h9,if_neg h10,if_neg h11,if_neg h12,if_pos h13] at he;unfold xbQ at he ⊢
       split
       ·rename_i hc;rw[if_pos hc] at he;cases he
       ·exact on (Int.le_refl _) rfl rfl rfl rfl
      ·split
       ·rename_i h9 h10 h11 h12 h13 h14;rw[if_neg h9,if_neg h10,if_neg h11,if_neg h12,if_neg h13,if_pos h14] at he;unfold xcm at he ⊢;simp only[] at he ⊢
        split
        ·rename_i hc;rw[if_pos hc] at he;exact absurd he hc
        ·exact on (ht _ _ _ _ _) rfl rfl rfl rfl
       ·split
        ·rename_i h9 h10 h11 h12 h13 h14 h15;rw[if_neg h9,if_neg h10,if_neg h11,if_neg h12,if_neg h13,if_neg h14,if_pos h15] at he
         exact xkE (f1:={ f with pc:=f.pc+1 }) h0 hl rfl rfl rfl he
        ·split
         ·rename_i h9 h10 h11 h12 h13 h14 h15 h16;rw[if_neg h9,if_neg h10,if_neg h11,if_neg h12,if_neg h13,if_neg h14,if_neg h15,if_pos h16] at he;unfold xbr at he ⊢
          split
          ·exact on (Int.le_refl _) rfl rfl rfl rfl
          ·rename_i k2;rw[if_neg k2] at he
           split
           ·rename_i k1;rw[if_pos k1] at he
            exact xkE (f1:=Fr.pop { f with pc:=f.pc+1 }) h0 hl rfl rfl rfl he
           ·rename_i k1;rw[if_neg k1] at he
            cases he
         ·rename_i h9 h10 h11 h12 h13 h14 h15 h16;rw[if_neg h9,if_neg h10,if_neg h11,if_neg h12,if_neg h13,if_neg h14,if_neg h15,if_neg h16] at he;unfold xcl at he ⊢
          split
          ·rename_i k;rw[if_pos k] at he;cases he
          ·rename_i hfast;have hfast':f.fast=true:=by simpa using hfast
           split
           ·simp only[]
            split
            ·exact on (Int.le_refl _) rfl rfl rfl rfl
            ·have:=xmk (m:=m) (f:={ f with pc:=f.pc+1 }) hm hfast' x.c
             have h2:muE m { f with pc:=f.pc+1 }<muE m f:=on (Int.le_refl _) rfl rfl rfl rfl
             omega
           ·split
            ·exact on (Int.le_refl _) rfl rfl rfl rfl
            ·split
             ·exact on (Int.le_refl _) rfl rfl rfl rfl
             ·split
              ·refine on ?_ rfl rfl rfl rfl;simp only[xay]
               split
               ·exact Int.le_refl _
               ·split
                ·exact Int.le_refl _
                ·exact Int.le_refl _
              ·exact on (Int.le_refl _) rfl rfl rfl rfl
theorem xf8 (m:Mc σ)(f:Fr)(a b:Int):m.turns<=(xaX m f a b).1.turns:=by
 unfold xaX
 by_cases h:b<=a
 ·simp only[h,if_true]
  split<;>(simp only[];omega)
 ·simp only[h,if_false]
  split<;>exact Int.le_refl _
theorem xfo (E:Env σ)(d:Nat)(m:Mc σ):(xay E d m).1.turns=m.turns:=by
 unfold xay
 split
 ·rfl
 ·split<;>rfl
theorem xei {ent:Ent σ}(ht:xdy ent)(E:Env σ)(d:Nat)(m:Mc σ)(f:Fr)(a:Int)(x:QI):m.turns<=(xan ent E d m f a x).1.turns:=by
 unfold xan
 split
 ·exact Int.le_refl _
 ·split
  ·exact Int.le_refl _
  ·split
   ·exact Int.le_refl _
   ·split
    ·exact Int.le_refl _
    ·split
     ·exact Int.le_refl _
     ·split
      ·unfold xbQ
       split<;>exact Int.le_refl _
      ·split
       ·unfold xcm;simp only[]
        split
        ·exact ht { m with st:=_ } _ _ _ _
        ·exact ht { m with st:=_ } _ _ _ _
       ·split
        ·exact xf8 _ _ _ _
        ·split
         ·unfold xbr
          split
          ·exact Int.le_refl _
          ·split
           ·exact xf8 _ _ _ _
           ·exact Int.le_refl _
         ·unfold xcl
          split
          ·exact Int.le_refl _
          ·split
           ·exact Int.le_refl _
           ·split
            ·exact Int.le_refl _
            ·split
             ·exact Int.le_refl _
             ·split
              ·exact Int.le_of_eq (xfo E d m).symm
              ·exact Int.le_refl _
theorem xhv {ent:Ent σ}(ht:xdy ent)(E:Env σ)(d:Nat):∀ (g:Nat) (m:Mc σ) (f:Fr),m.turns<=(xcL ent E d g m f).1.turns
 | 0,m,f=>Int.le_refl _
 | g+1,m,f=>by
  unfold xcL;generalize (if f.pc<0 then none else f.code[f.pc.toNat]?)=q
  cases q with
  | none=>exact Int.le_refl _
  | some x=>
   simp only[]
   split
   ·exact Int.le_refl _
   ·have h1:=xei ht E d m { f with pc:=f.pc+1 } f.pc x
    split
    ·exact h1
    ·exact Int.le_trans h1 (xhv ht E d g _ _)
theorem xe0 (E:Env σ)(d:Nat){body:Mc σ->Fr->Mc σ × QV × Int}(hb:∀ m f,m.turns<=(body m f).1.turns):xdy (xbj E d body):=by
 intro m c n s a;unfold xbj
 cases xaO E.cz c n with
 | none=>exact Int.le_refl _
 | some mt=>
  simp only[]
  split
  ·exact Int.le_refl _
  ·split
   ·split<;>exact Int.le_refl _
   ·split
    ·exact Int.le_refl _
    ·have h1:=xfo E d m;have h2:=hb (xay E d m).1 (xaG E c n mt s a)
     omega
theorem xcU (E:Env σ):∀ d:Nat,xdy (xa1 E d)
 | 0=>xe0 E 0 fun m f=>Int.le_refl _
 | d+1=>xe0 E (d+1) fun m f=>xhv (xcU E d) E d _ m f
theorem xfT {X:QW}(h:xaJ X=0){c n:Int}{m:QM}(hm:xaO X.cz c n=some m):(m.prim≠0/\m.args=1)\/(m.prim=0/\∃ S N:Int,wmE X.cz.length c m=0/\(∀ x∈m.code,xgk S N m x=0)/\(xaH m.code).2.1=0):=by
 obtain⟨hs,-,hk,-⟩:=xbE h;unfold xaO at hm
 cases hx:xby X.cz c with
 | none=>rw[hx] at hm;cases hm
 | some x=>
  rw[hx] at hm;simp only[Option.bind_some] at hm;obtain⟨k,rfl,hx'⟩:=xbn hx
  split at hm
  ·have hr:=hk k x (xae hx') hx';unfold rkE at hr
   split at hr
   ·cases hr
   ·split at hr
    ·cases hr
    ·have hq:=xbH hr _ _ hm;unfold rmE at hq
     split at hq
     ·cases hq
     ·split at hq
      ·rename_i hp
       left
       unfold xgz at hp;rw[List.any_eq_true] at hp;obtain⟨p,hpm,hp⟩:=hp;simp only[Bool.and_eq_true,decide_eq_true_eq] at hp;refine⟨?_,hp.1.1.2⟩;rw[← hp.1.1.1.2]
       have:∀ q∈xfw,q.prim≠0:=by
        intro q hq
        simp[xfw] at hq
        rcases hq with rfl | rfl | rfl | rfl | rfl<;>decide
       exact this p hpm
      ·right
       unfold xdY at hq
       split at hq
       ·rename_i a;exact absurd hq a
       ·rename_i a;have hw:wmE X.cz.length k m=0:=Decidable.of_not_not a
        split at hq
        ·rename_i f e;exact absurd hq (xgi e)
        ·rename_i e;refine⟨?_,_,_,hw,xgm e,hq⟩;unfold wmE at hw
         split at hw
         ·cases hw
         ·split at hw
          ·cases hw
          ·split at hw
           ·cases hw
           ·split at hw
            ·cases hw
            ·rename_i hp;exact Decidable.of_not_not hp
  ·cases hm
theorem xl9 {X:QW}(h:xaJ X=0){c n:Int}{m:QM}(hm:xaO X.cz c n=some m)(hp:m.prim=0){a:List QV}(ha:m.args=a.length)(s:QV){E:Env σ}(hq:E.quick c n=none):PlOk (xaG E c n m s a):=by
 rcases xfT h hm with ⟨hp',-⟩ | ⟨-,S,N,hw,hn,hh⟩
 ·exact absurd hp hp'
 ·obtain⟨hw1,hw2,hw3,-,-,-⟩:=xiV hw;have hso:xc5 m.code:=fun y hy=>xdW (hn y hy)
  obtain⟨-,h1,h2,-⟩:=xf3 hso hh;have hfr:xaG E c n m s a=⟨c,m,s,a,xaQ m.temps,[],m.code,0,false⟩:=by unfold xaG;rw[hq]
  rw[hfr];refine⟨rfl,rfl,⟨S,N,hn⟩,hh,ha.symm,?_,0,rfl,h1,?_⟩
  ·simp only[xaQ,List.length_replicate];omega
  ·rw[h2];rfl
end
section
variable {σ τ:Type}
structure MR (Rel:σ->τ->Prop)(m:Mc σ)(m':Mc τ):Prop where
 heap:m'.heap=m.heap
 sz_:m'.sz_=m.sz_
 turns:m'.turns=m.turns
 st:Rel m.st m'.st
def RR {α:Type}(Rel:σ->τ->Prop)(r:Mc σ × α × Int)(r':Mc τ × α × Int):Prop:=MR Rel r.1 r'.1/\r'.2=r.2
structure ER (Rel:σ->τ->Prop)(SOk:QS->ByteArray->Prop)(E:Env σ)(E':Env τ):Prop where
 cz:E'.cz=E.cz
 fuel:E'.fuel=E.fuel
 quick:E'.quick=E.quick
 look:∀ s t x c name,Rel s t->SOk x name->(E'.look t x c name).2=(E.look s x c name).2/\Rel (E.look s x c name).1 (E'.look t x c name).1
 plain:∀ c n m,xaO E.cz c n=some m->∀ (k:Nat) x,m.code[k]?=some x->x.op=14->SOk ⟨c,m.name,k⟩ x.name
 fast:∀ c n m q,xaO E.cz c n=some m->E.quick c n=some q->∀ x∈q.1,x.op=14->SOk ⟨c,m.name,x.c⟩ x.name
structure FR (SOk:QS->ByteArray->Prop)(f:Fr):Prop where
 code:f.fast=false->f.code=f.meth.code
 plain:∀ (k:Nat) x,f.meth.code[k]?=some x->x.op=14->SOk ⟨f.cls,f.meth.name,k⟩ x.name
 fast:f.fast=true->∀ x∈f.code,x.op=14->SOk ⟨f.cls,f.meth.name,x.c⟩ x.name
theorem FR.same {SOk:QS->ByteArray->Prop}{f f':Fr}(h:FR SOk f)(e1:f'.fast=f.fast)(e2:f'.code=f.code)(e3:f'.meth=f.meth)(e4:f'.cls=f.cls):FR SOk f':=by
 refine⟨?_,?_,?_⟩
 ·rw[e1,e2,e3];exact h.code
 ·rw[e3,e4];exact h.plain
 ·rw[e1,e2,e3,e4];exact h.fast
theorem FR.leave {SOk:QS->ByteArray->Prop}{f:Fr}(h:FR SOk f)(c:Int):FR SOk (f.leave c):=⟨fun _=>rfl,h.plain,fun h=>by cases h⟩
def xo0 (Rel:σ->τ->Prop)(ent:Ent σ)(ent':Ent τ):Prop:=∀ m m' c n s a,MR Rel m m'->RR Rel (ent m c n s a) (ent' m' c n s a)
theorem xiQ {Rel:σ->τ->Prop}{m:Mc σ}{m':Mc τ}(h:MR Rel m m')(f:Fr)(a b:Int):RR Rel (xaX m f a b) (xaX m' f a b):=by
 unfold xaX
 by_cases hb:b<=a
 ·simp only[hb,if_true,h.turns]
  split
  ·exact⟨⟨h.heap,h.sz_,rfl,h.st⟩,rfl⟩
  ·exact⟨⟨h.heap,h.sz_,rfl,h.st⟩,rfl⟩
 ·simp only[hb,if_false,h.turns]
  split
  ·exact⟨h,rfl⟩
  ·exact⟨h,rfl⟩
theorem xhp {Rel:σ->τ->Prop}{SOk:QS->ByteArray->Prop}{E:Env σ}{E':Env τ}(hE:ER Rel SOk E E')(d:Nat){m:Mc σ}{m':Mc τ}(h:MR Rel m m'):MR Rel (xay E d m).1 (xay E' d m').1/\(xay E' d m').2=(xay E d m).2:=by
 unfold xay;rw[hE.fuel,h.sz_]
 split
 ·exact⟨h,rfl⟩
 ·split
  ·exact⟨h,rfl⟩
  ·exact⟨⟨h.heap,rfl,h.turns,h.st⟩,rfl⟩
theorem xl0 {Rel:σ->τ->Prop}{SOk:QS->ByteArray->Prop}{E:Env σ}{E':Env τ}(hE:ER Rel SOk E E'){ent:Ent σ}{ent':Ent τ}(he:xo0 Rel ent ent')(d:Nat){m:Mc σ}{m':Mc τ}(h:MR Rel m m'){f:Fr}{at':Int}{x:QI}(hs:x.op=14->SOk (f.site at' x) x.name):RR Rel (xan ent E d m f at' x) (xan ent' E' d m' f at' x):=by
 unfold xan;rw[h.heap]
 split
 ·exact⟨h,rfl⟩
 ·split
  ·exact⟨h,rfl⟩
  ·split
   ·exact⟨h,rfl⟩
   ·split
    ·exact⟨h,rfl⟩
    ·split
     ·exact⟨⟨rfl,h.sz_,h.turns,h.st⟩,rfl⟩
     ·split
      ·unfold xbQ;rw[h.heap,hE.cz]
       split
       ·exact⟨h,rfl⟩
       ·exact⟨⟨rfl,h.sz_,h.turns,h.st⟩,rfl⟩
      ·split
       ·rename_i h14;unfold xcm;simp only[];rw[h.heap];obtain⟨l1,l2⟩:=hE.look m.st m'.st (f.site at' x) (xar m.heap (xaW (f.stack.take (xbu f.stack x.a)) 0)) x.name h.st (hs h14);generalize E.look m.st (f.site at' x) (xar m.heap (xaW (f.stack.take (xbu f.stack x.a)) 0)) x.name=l at l1 l2 ⊢;generalize E'.look m'.st (f.site at' x) (xar m.heap (xaW (f.stack.take (xbu f.stack x.a)) 0)) x.name=l' at l1 l2 ⊢;obtain⟨q1,q2⟩:=l;obtain⟨q1',q2'⟩:=l';simp only[] at l1 l2;subst l1;have hr:=he { m with st:=q1 } { m' with st:=q1' } q2'.1 q2'.2 (xaW (f.stack.take (xbu f.stack x.a)) 0) (f.stack.drop (xbu f.stack x.a)) ⟨h.heap,h.sz_,h.turns,l2⟩
        simp only[h.heap] at hr;generalize ent { m with st:=q1 } q2'.1 q2'.2 (xaW (f.stack.take (xbu f.stack x.a)) 0) (f.stack.drop (xbu f.stack x.a))=r at hr ⊢
        generalize ent' { heap:=m.heap,sz_:=m'.sz_,turns:=m'.turns,st:=q1' } q2'.1 q2'.2 (xaW (f.stack.take (xbu f.stack x.a)) 0) (f.stack.drop (xbu f.stack x.a))=r' at hr ⊢;obtain⟨r1,r2⟩:=hr;rw[r2]
        split
        ·exact⟨r1,rfl⟩
        ·exact⟨r1,rfl⟩
       ·split
        ·exact xiQ h f at' x.a
        ·split
         ·unfold xbr
          split
          ·exact⟨h,rfl⟩
          ·split
           ·exact xiQ h f.pop at' x.a
           ·exact⟨h,rfl⟩
         ·unfold xcl;rw[h.heap]
          split
          ·exact⟨h,rfl⟩
          ·split
           ·exact⟨h,rfl⟩
           ·split
            ·exact⟨h,rfl⟩
            ·split
             ·exact⟨⟨rfl,h.sz_,h.turns,h.st⟩,rfl⟩
             ·split
              ·obtain⟨c1,c2⟩:=xhp hE d h;refine⟨c1,?_⟩;simp only[];rw[c2]
              ·exact⟨h,rfl⟩
theorem xlp {SOk:QS->ByteArray->Prop}(m:Mc σ){f:Fr}(h:FR SOk f)(a b:Int):FR SOk (xaX m f a b).2.1:=by
 unfold xaX;simp only[];generalize (if b<=a then { m with turns:=m.turns+1 } else m:Mc σ)=m'
 split
 ·exact h
 ·exact h.same rfl rfl rfl rfl
theorem xnZ {SOk:QS->ByteArray->Prop}(ent:Ent σ)(E:Env σ)(d:Nat)(m:Mc σ){f:Fr}(h:FR SOk f)(a:Int)(x:QI):FR SOk (xan ent E d m f a x).2.1:=by
 unfold xan
 split
 ·exact h.same rfl rfl rfl rfl
 ·split
  ·exact h.same rfl rfl rfl rfl
  ·split
   ·exact h.same rfl rfl rfl rfl
   ·split
    ·exact h.same rfl rfl rfl rfl
    ·split
     ·exact h.same rfl rfl rfl rfl
     ·split
      ·unfold xbQ
       split
       ·exact h
       ·exact h.same rfl rfl rfl rfl
      ·split
       ·unfold xcm;simp only[]
        split
        ·exact h
        ·exact h.same rfl rfl rfl rfl
       ·split
        ·exact xlp m h a x.a
        ·split
         ·unfold xbr
          split
          ·exact h.same rfl rfl rfl rfl
          ·split
           ·exact xlp m (f:=f.pop) (h.same rfl rfl rfl rfl) a x.a
           ·exact h
         ·unfold xcl
          split
          ·exact h
          ·split
           ·simp only[]
            split
            ·exact h
            ·exact h.leave x.c
           ·split
            ·exact h.same rfl rfl rfl rfl
            ·split
             ·exact h.same rfl rfl rfl rfl
             ·split
              ·exact h
              ·exact h
theorem FR.site {SOk:QS->ByteArray->Prop}{f:Fr}(h:FR SOk f){x:QI}(h0:¬ f.pc<0)(hx:f.code[f.pc.toNat]?=some x)(h14:x.op=14)(t:Int):SOk (Fr.site { f with pc:=t } f.pc x) x.name:=by
 unfold Fr.site
 cases hf:f.fast with
 | false=>
  simp only[Bool.false_eq_true,if_false];rw[h.code hf] at hx;have:=h.plain _ x hx h14
  rwa [show ((f.pc.toNat:Nat):Int)=f.pc by omega] at this
 | true=>
  simp only[if_true]
  exact h.fast hf x (List.mem_of_getElem? hx) h14
theorem xk9 {Rel:σ->τ->Prop}{SOk:QS->ByteArray->Prop}{E:Env σ}{E':Env τ}(hE:ER Rel SOk E E'){ent:Ent σ}{ent':Ent τ}(he:xo0 Rel ent ent')(d:Nat):∀ (g:Nat) {m:Mc σ} {m':Mc τ} {f:Fr},MR Rel m m'->FR SOk f->RR Rel (xcL ent E d g m f) (xcL ent' E' d g m' f)
 | 0,m,m',f,h,hf=>⟨h,rfl⟩
 | g+1,m,m',f,h,hf=>by
  unfold xcL
  cases hq:(if f.pc<0 then none else f.code[f.pc.toNat]?) with
  | none=>exact⟨h,rfl⟩
  | some x=>
   simp only[]
   split
   ·exact⟨h,rfl⟩
   ·have hs:x.op=14->SOk (Fr.site { f with pc:=f.pc+1 } f.pc x) x.name:=fun h14=>by
     split at hq
     ·cases hq
     ·rename_i h0;exact hf.site h0 hq h14 _
    have hr:=xl0 hE he d h (f:={ f with pc:=f.pc+1 }) (at':=f.pc) hs
    have hfr:=xnZ ent E d m (f:={ f with pc:=f.pc+1 }) (hf.same rfl rfl rfl rfl) f.pc x
    generalize xan ent E d m { f with pc:=f.pc+1 } f.pc x=r at hr hfr ⊢
    generalize xan ent' E' d m' { f with pc:=f.pc+1 } f.pc x=r' at hr ⊢
    obtain⟨r1,r2⟩:=hr;rw[r2]
    split
    ·exact⟨r1,rfl⟩
    ·exact xk9 hE he d g r1 hfr
theorem xgE {Rel:σ->τ->Prop}{SOk:QS->ByteArray->Prop}{E:Env σ}{E':Env τ}(hE:ER Rel SOk E E')(d:Nat){body:Mc σ->Fr->Mc σ × QV × Int}{body':Mc τ->Fr->Mc τ × QV × Int}(hb:∀ {m m' f},MR Rel m m'->FR SOk f->RR Rel (body m f) (body' m' f)):xo0 Rel (xbj E d body) (xbj E' d body'):=by
 intro m m' c n s a h;unfold xbj;rw[hE.cz,hE.fuel,h.sz_]
 cases hm:xaO E.cz c n with
 | none=>exact⟨h,rfl⟩
 | some mt=>
  simp only[];have hfr:xaG E' c n mt s a=xaG E c n mt s a:=by unfold xaG;rw[hE.quick]
  have hf:FR SOk (xaG E c n mt s a):=by
   unfold xaG
   cases hq:E.quick c n with
   | none=>exact⟨fun _=>rfl,hE.plain c n mt hm,fun h=>by cases h⟩
   | some q=>exact⟨fun h=>(by cases h),hE.plain c n mt hm,fun _=>hE.fast c n mt q hm hq⟩
  split
  ·exact⟨h,rfl⟩
  ·split
   ·split
    ·exact⟨h,rfl⟩
    ·exact⟨⟨h.heap,rfl,h.turns,h.st⟩,rfl⟩
   ·obtain⟨c1,c2⟩:=xhp hE d h;rw[c2,hfr]
    split
    ·exact⟨h,rfl⟩
    ·exact hb c1 hf
theorem xfi {Rel:σ->τ->Prop}{SOk:QS->ByteArray->Prop}{E:Env σ}{E':Env τ}(hE:ER Rel SOk E E'):∀ d:Nat,xo0 Rel (xa1 E d) (xa1 E' d)
 | 0=>xgE hE 0 fun h _=>⟨h,rfl⟩
 | d+1=>xgE hE (d+1) fun h hf=>xk9 hE (xfi hE d) d _ h hf
end
section
variable {σ:Type}
def xlB (F:Int)(ent:Ent σ):Prop:=∀ m c n s a,m.sz_<=F->(ent m c n s a).1.sz_<=F/\0<=(ent m c n s a).1.sz_-m.sz_
theorem xiv (E:Env σ)(d:Nat){m:Mc σ}(h:m.sz_<=E.fuel):(xay E d m).1.sz_<=E.fuel/\0<=(xay E d m).1.sz_-m.sz_:=by
 unfold xay
 split
 ·simp only[];omega
 ·split
  ·simp only[];omega
  ·simp only[];omega
theorem xh5 {E:Env σ}{ent:Ent σ}(he:xlB E.fuel ent)(d:Nat){m:Mc σ}(h:m.sz_<=E.fuel)(f:Fr)(a:Int)(x:QI):(xan ent E d m f a x).1.sz_<=E.fuel/\0<=(xan ent E d m f a x).1.sz_-m.sz_:=by
 have self:m.sz_<=E.fuel/\0<=m.sz_-m.sz_:=⟨h,by omega⟩
 have jmp:∀ f a b,(xaX m f a b).1.sz_<=E.fuel/\0<=(xaX m f a b).1.sz_-m.sz_:=fun f a b=>by rw[xeh];exact self
 unfold xan
 split
 ·exact self
 ·split
  ·exact self
  ·split
   ·exact self
   ·split
    ·exact self
    ·split
     ·exact self
     ·split
      ·rw[xf6];exact self
      ·split
       ·unfold xcm;simp only[]
        split
        ·exact he { m with st:=_ } _ _ _ _ h
        ·exact he { m with st:=_ } _ _ _ _ h
       ·split
        ·exact jmp _ _ _
        ·split
         ·rw[xfI];exact self
         ·unfold xcl
          split
          ·exact self
          ·split
           ·exact self
           ·split
            ·exact self
            ·split
             ·exact self
             ·split
              ·exact xiv E d h
              ·exact self
theorem xmF {E:Env σ}{ent:Ent σ}(he:xlB E.fuel ent)(d:Nat):∀ (g:Nat) {m:Mc σ} (f:Fr),m.sz_<=E.fuel->(xcL ent E d g m f).1.sz_<=E.fuel/\0<=(xcL ent E d g m f).1.sz_-m.sz_
 | 0,m,f,h=>⟨h,by show 0<=m.sz_-m.sz_;omega⟩
 | g+1,m,f,h=>by
  have self:m.sz_<=E.fuel/\0<=m.sz_-m.sz_:=⟨h,by omega⟩
  unfold xcL;generalize (if f.pc<0 then none else f.code[f.pc.toNat]?)=q
  cases q with
  | none=>exact self
  | some x=>
   simp only[]
   split
   ·exact self
   ·have h1:=xh5 he d h { f with pc:=f.pc+1 } f.pc x
    split
    ·exact h1
    ·have h2:=xmF he d g (xan ent E d m { f with pc:=f.pc+1 } f.pc x).2.1 h1.1
     exact⟨h2.1,by omega⟩
theorem xiD {E:Env σ}(d:Nat){body:Mc σ->Fr->Mc σ × QV × Int}(hb:∀ {m} f,m.sz_<=E.fuel->(body m f).1.sz_<=E.fuel/\0<=(body m f).1.sz_-m.sz_):xlB E.fuel (xbj E d body):=by
 intro m c n s a h;have self:m.sz_<=E.fuel/\0<=m.sz_-m.sz_:=⟨h,by omega⟩
 unfold xbj
 cases xaO E.cz c n with
 | none=>exact self
 | some mt=>
  simp only[]
  split
  ·exact self
  ·split
   ·split
    ·exact self
    ·simp only[];omega
   ·split
    ·exact self
    ·have h1:=xiv E d h;have h2:=hb (xaG E c n mt s a) h1.1
     exact⟨h2.1,by omega⟩
theorem xlf (E:Env σ):∀ d:Nat,xlB E.fuel (xa1 E d)
 | 0=>xiD 0 fun f h=>⟨h,by simp only[];omega⟩
 | d+1=>xiD (d+1) fun f h=>xmF (xlf E d) d _ f h
end
def xap (X:QW)(s:QV)(name:ByteArray)(args:List QV)(fuel:Int):Int:=
 if xbf name=false then 7 else if 4<args.length then 5 else if fuel<0\/400<fuel then 3 else if xas X.heap.length s≠0 then xas X.heap.length s else xbe (fun _ v=>xas X.heap.length v) 0 args
def xcJ (X:QW)(fuel:Int):Env Unit:=⟨X.cz,fuel,fun _ _ c name=>((),xaw X.cz c name),xfk⟩
def xlZ (X:QW)(s:QV)(name:ByteArray)(args:List QV)(fuel:Int):Mc Unit × QV × Int:=
 xa1 (xcJ X fuel) 20 ⟨X.heap,0,0,()⟩ (xaw X.cz (xar X.heap s) name).1 (xaw X.cz (xar X.heap s) name).2 s args
structure Ran where
 heap:List QO
 v:QV
 err:Int
 sz_:Int
def xcI (X:QW)(s:QV)(name:ByteArray)(args:List QV)(fuel:Int):Ran:=
 if xap X s name args fuel≠0 then ⟨X.heap,xaU,xap X s name args fuel,0⟩
 else if (xlZ X s name args fuel).2.2≠0 then ⟨X.heap,xaU,(xlZ X s name args fuel).2.2,(xlZ X s name args fuel).1.sz_⟩
 else ⟨(xlZ X s name args fuel).1.heap,(xlZ X s name args fuel).2.1,0,(xlZ X s name args fuel).1.sz_⟩
theorem xcH {X:QW}{s:QV}{name:ByteArray}{args:List QV}{fuel:Int}(h:xap X s name args fuel=0):(0<=fuel/\fuel<=400)/\xas X.heap.length s=0/\VsOk X.heap.length args:=by
 unfold xap at h
 split at h
 ·cases h
 ·split at h
  ·cases h
  ·split at h
   ·cases h
   ·split at h
    ·rename_i k;exact absurd h k
    ·rename_i k1 k2 k3 k4;refine⟨by omega,Decidable.of_not_not k4,fun v hv=>?_⟩
     obtain⟨i,hi,rfl⟩:=List.mem_iff_getElem.1 hv
     exact xbH h i _ (List.getElem?_eq_getElem hi)
section
variable {σ α:Type}
structure Cnt (E:Env σ)(A B:σ->Nat):Prop where
 a:∀ st s c nm,A (E.look st s c nm).1=A st+1
 b:∀ st s c nm,B (E.look st s c nm).1=B st\/(B (E.look st s c nm).1=B st+1/\xaO E.cz (E.look st s c nm).2.1 (E.look st s c nm).2.2=none)
structure StInv (A B:σ->Nat)(k:Int)(m:Mc σ)(r:Mc σ × α × Int):Prop where
 good:r.2.2=0->(A r.1.st:Int)+m.sz_+k<=A m.st+r.1.sz_/\B r.1.st=B m.st
 bad:r.2.2≠0->(A r.1.st:Int)+m.sz_+k<=A m.st+r.1.sz_+1/\(B r.1.st=B m.st\/(r.2.2=10/\B r.1.st=B m.st+1))
theorem StInv.of {A B:σ->Nat}{m:Mc σ}{r:Mc σ × α × Int}(h1:r.1.st=m.st)(h2:m.sz_<=r.1.sz_):StInv A B 0 m r:=⟨fun _=>by rw[h1];exact⟨by omega,rfl⟩,fun _=>by rw[h1];exact⟨by omega,Or.inl rfl⟩⟩
theorem xd9 (m:Mc σ)(f:Fr)(a b:Int):(xaX m f a b).1.st=m.st/\(xaX m f a b).1.sz_=m.sz_:=by
 unfold xaX
 by_cases h:b<=a
 ·simp only[h,if_true];split<;>exact⟨rfl,rfl⟩
 ·simp only[h,if_false];split<;>exact⟨rfl,rfl⟩
theorem xeF (E:Env σ)(d:Nat)(m:Mc σ):(xay E d m).1.st=m.st/\m.sz_<=(xay E d m).1.sz_/\((xay E d m).2=0->(xay E d m).1.sz_=m.sz_+1):=by
 unfold xay
 split
 ·exact⟨rfl,by simp,fun h=>by cases h⟩
 ·split
  ·exact⟨rfl,by simp,fun h=>by cases h⟩
  ·exact⟨rfl,by simp;omega,fun _=>rfl⟩
def xiL (A B:σ->Nat)(ent:Ent σ)(E:Env σ):Prop:=∀ m c n s a,StInv A B 1 m (ent m c n s a)/\(xaO E.cz c n=none->ent m c n s a=(m,xaU,10))
theorem xlW {A B:σ->Nat}{E:Env σ}(hC:Cnt E A B){ent:Ent σ}(he:xiL A B ent E)(d:Nat)(m:Mc σ)(f:Fr)(a:Int)(x:QI):StInv A B 0 m (xan ent E d m f a x):=by
 have self:∀ (g:Fr) (e:Int),StInv A B 0 m (m,g,e):=fun g e=>.of rfl (Int.le_refl _)
 unfold xan
 split
 ·exact self _ _
 ·split
  ·exact self _ _
  ·split
   ·exact self _ _
   ·split
    ·exact self _ _
    ·split
     ·exact .of rfl (Int.le_refl _)
     ·split
      ·unfold xbQ;split
       ·exact self _ _
       ·exact .of rfl (Int.le_refl _)
      ·split
       ·unfold xcm;simp only;generalize xbu f.stack x.a=k;have ha:=hC.a m.st (f.site a x) (xar m.heap (xaW (f.stack.take k) 0)) x.name;have hb:=hC.b m.st (f.site a x) (xar m.heap (xaW (f.stack.take k) 0)) x.name;generalize E.look m.st (f.site a x) (xar m.heap (xaW (f.stack.take k) 0)) x.name=l at ha hb ⊢;obtain⟨h1,h2⟩:=he { m with st:=l.1 } l.2.1 l.2.2 (xaW (f.stack.take k) 0) (f.stack.drop k)
        generalize ent { m with st:=l.1 } l.2.1 l.2.2 (xaW (f.stack.take k) 0) (f.stack.drop k)=r at h1 h2 ⊢
        rcases hb with hb | ⟨hb,hn⟩
        ·by_cases h0:r.2.2=0
         ·rw[if_neg (by simpa using h0)]
          have:=h1.good h0;simp only at this
          exact⟨fun _=>⟨by simp only;omega,by rw[this.2];exact hb⟩,fun h=>absurd rfl h⟩
         ·rw[if_pos h0];have:=h1.bad h0;simp only at this;refine⟨fun h=>absurd h h0,fun _=>⟨by simp only;omega,?_⟩⟩
          rcases this.2 with h | ⟨h,h'⟩
          ·exact Or.inl (h.trans hb)
          ·exact Or.inr ⟨h,by rw[h',hb]⟩
        ·have e:=h2 hn;subst e;rw[if_pos (by simp)]
         exact⟨(fun h=>by cases h),fun _=>⟨by simp only;omega,Or.inr ⟨rfl,hb⟩⟩⟩
       ·split
        ·have:=xd9 m f a x.a
         exact .of this.1 (by rw[this.2];exact Int.le_refl _)
        ·split
         ·unfold xbr
          split
          ·exact self _ _
          ·split
           ·have:=xd9 m f.pop a x.a
            exact .of this.1 (by rw[this.2];exact Int.le_refl _)
           ·exact self _ _
         ·unfold xcl
          split
          ·exact self _ _
          ·split
           ·exact self _ _
           ·split
            ·exact self _ _
            ·split
             ·exact .of rfl (Int.le_refl _)
             ·split
              ·have:=xeF E d m
               exact .of this.1 this.2.1
              ·exact self _ _
theorem xlc {A B:σ->Nat}{E:Env σ}(hC:Cnt E A B){ent:Ent σ}(he:xiL A B ent E)(d:Nat):∀ (g:Nat) (m:Mc σ) (f:Fr),StInv A B 0 m (xcL ent E d g m f)
 | 0,m,f=>.of rfl (Int.le_refl _)
 | g+1,m,f=>by
  unfold xcL;generalize (if f.pc<0 then none else f.code[f.pc.toNat]?)=q
  cases q with
  | none=>exact .of rfl (Int.le_refl _)
  | some x=>
   simp only[]
   by_cases h17:x.op=17
   ·rw[if_pos h17];exact .of rfl (Int.le_refl _)
   ·rw[if_neg h17];have hs:=xlW hC he d m { f with pc:=f.pc+1 } f.pc x
    generalize xan ent E d m { f with pc:=f.pc+1 } f.pc x=r at hs ⊢
    by_cases h0:r.2.2=0
    ·rw[if_neg (by simpa using h0)]
     have ih:=xlc hC he d g r.1 r.2.1;obtain⟨i1,i2⟩:=hs.good h0;refine⟨fun h=>?_,fun h=>?_⟩
     ·obtain⟨j1,j2⟩:=ih.good h
      exact⟨by omega,j2.trans i2⟩
     ·obtain⟨j1,j2⟩:=ih.bad h;refine⟨by omega,?_⟩
      rcases j2 with j | ⟨j,j'⟩
      ·exact Or.inl (j.trans i2)
      ·exact Or.inr ⟨j,by rw[j',i2]⟩
    ·rw[if_pos h0]
     exact⟨fun h=>absurd h h0,fun _=>hs.bad h0⟩
theorem xhh {A B:σ->Nat}{E:Env σ}(d:Nat){body:Mc σ->Fr->Mc σ × QV × Int}(hb:∀ m f,StInv A B 0 m (body m f)):xiL A B (xbj E d body) E:=fun m c n s a=>by
 have self:∀ (v:QV) (e:Int),e≠0->StInv A B 1 m (m,v,e):=fun v e he=>⟨fun h=>absurd h he,fun _=>⟨by simp only;omega,Or.inl rfl⟩⟩
 unfold xbj
 cases xaO E.cz c n with
 | none=>exact⟨self _ _ (by omega),fun _=>rfl⟩
 | some mt=>
  refine⟨?_,fun h=>by cases h⟩
  simp only
  split
  ·exact self _ _ (by omega)
  ·split
   ·split
    ·exact self _ _ (by omega)
    ·exact⟨fun _=>⟨by simp only;omega,rfl⟩,fun _=>⟨by simp only;omega,Or.inl rfl⟩⟩
   ·obtain⟨c1,c2,c3⟩:=xeF E d m
    split
    ·rename_i h;exact self _ _ h
    ·rename_i h;have h0:(xay E d m).2=0:=by simpa using h
     have c4:=c3 h0;have ih:=hb (xay E d m).1 (xaG E c n mt s a);generalize body (xay E d m).1 (xaG E c n mt s a)=r at ih ⊢;refine⟨fun h=>?_,fun h=>?_⟩
     ·obtain⟨j1,j2⟩:=ih.good h;rw[c1] at j1 j2
      exact⟨by omega,j2⟩
     ·obtain⟨j1,j2⟩:=ih.bad h;rw[c1] at j1 j2
      exact⟨by omega,j2⟩
theorem xjW {A B:σ->Nat}{E:Env σ}(hC:Cnt E A B):∀ d,xiL A B (xa1 E d) E
 | 0=>xhh 0 fun m f=>.of rfl (Int.le_refl _)
 | d+1=>xhh (d+1) fun m f=>xlc hC (xjW hC d) d _ m f
end
section
variable {σ:Type}
def xdf (E:Env σ)(X:QW)(st0:σ)(s:QV)(name:ByteArray)(args:List QV):Mc σ × QV × Int:=
 xa1 E 20 ⟨X.heap,0,0,st0⟩ (xaw X.cz (xar X.heap s) name).1 (xaw X.cz (xar X.heap s) name).2 s args
def xop (X:QW)(r:Mc σ × QV × Int):Ran:=if r.2.2≠0 then ⟨X.heap,xaU,r.2.2,r.1.sz_⟩ else ⟨r.1.heap,r.2.1,0,r.1.sz_⟩
def xdh (E:Env σ)(X:QW)(st0:σ)(s:QV)(name:ByteArray)(args:List QV)(fuel:Int):Ran × σ:=
 if xap X s name args fuel≠0 then (⟨X.heap,xaU,xap X s name args fuel,0⟩,st0) else (xop X (xdf E X st0 s name args),(xdf E X st0 s name args).1.st)
end
theorem xjv (X:QW)(s:QV)(name:ByteArray)(args:List QV)(fuel:Int):(xdh (xcJ X fuel) X () s name args fuel).1=xcI X s name args fuel:=by
 unfold xdh xcI
 split<;>rfl
theorem xej {xs:List QC}{c n:Int}{mt:QM}(h:xaO xs c n=some mt):∃ (kc kn:Nat) (x:QC),c=(kc:Int)/\n=(kn:Int)/\xs[kc]?=some x/\x.mz[kn]?=some mt:=by
 unfold xaO at h
 cases hc:xby xs c with
 | none=>rw[hc] at h;cases h
 | some x=>
  rw[hc] at h;obtain⟨k,rfl,hk⟩:=xbn hc;simp only[Option.bind_some] at h
  split at h
  ·exact⟨k,n.toNat,x,rfl,by omega,hk,h⟩
  ·cases h
theorem xew:∀ (x y z:List UInt8),Op.bytesLess x y=true->Op.bytesLess y z=true->Op.bytesLess x z=true
 | [],[],z,h,_=>by simp[Op.bytesLess] at h
 | [],b :: y,[],_,k=>by simp[Op.bytesLess] at k
 | [],b :: y,c :: z,_,_=>by simp[Op.bytesLess]
 | a :: x,[],z,h,_=>by simp[Op.bytesLess] at h
 | a :: x,b :: y,[],_,k=>by simp[Op.bytesLess] at k
 | a :: x,b :: y,c :: z,h,k=>by
  simp only[Op.bytesLess,Bool.or_eq_true,decide_eq_true_eq,Bool.and_eq_true,beq_iff_eq] at h k ⊢
  rcases h with h | ⟨rfl,h⟩
  ·rcases k with k | ⟨rfl,k⟩
   ·exact Or.inl (UInt8.lt_trans h k)
   ·exact Or.inl h
  ·rcases k with k | ⟨rfl,k⟩
   ·exact Or.inl k
   ·exact Or.inr ⟨rfl,xew x y z h k⟩
theorem xeO:∀ (x:List UInt8),Op.bytesLess x x=false
 | []=>rfl
 | a :: x=>by simp[Op.bytesLess,xeO x]
theorem xeK {a b:ByteArray}:eqN a b=true ↔ a.toList=b.toList:=by simp[eqN]
theorem xff {a b c:ByteArray}(h:ltN a b=true)(k:ltN b c=true):ltN a c=true:=xew _ _ _ h k
theorem xd3 {a b:ByteArray}(h:ltN b a=true):eqN a b=false:=by
 cases k:eqN a b
 ·rfl
 ·unfold ltN at h;rw[xeK.1 k,xeO] at h;cases h
theorem xep {X:QW}{j:Nat}{ms:List QM}(h:∀ i y,ms[i]?=some y->rmE X j ms i y=0):∀ (e i:Nat) (a b:QM),ms[i]?=some a->ms[i+e+1]?=some b->ltN a.name b.name=true
 | 0,i,a,b,ha,hb=>by
  have h1:=h (i+1) b hb;unfold rmE at h1
  split at h1
  ·cases h1
  ·rename_i h2;simp only[xdQ,ha] at h2
   simpa using h2
 | e+1,i,a,b,ha,hb=>by
  have hlt:=xae hb;obtain⟨p,hp⟩:∃ p,ms[i+e+1]?=some p:=⟨_,List.getElem?_eq_getElem (by omega)⟩
  have h1:=h (i+(e+1)+1) b hb;unfold rmE at h1
  split at h1
  ·cases h1
  ·rename_i h2;have e1:ms[i+(e+1)]?=some p:=hp;simp only[xdQ,e1] at h2
   exact xff (xep h e i a p ha hp) (by simpa using h2)
theorem xhw {X:QW}(hX:xaJ X=0){c k n:Int}{a b:QM}(ha:xaO X.cz c k=some a)(hb:xaO X.cz c n=some b)(hn:a.name=b.name):a=b:=by
 obtain⟨kc,kk,x,rfl,rfl,hx,hak⟩:=xej ha;obtain⟨kc',kn,x',e1,rfl,hx',hbn⟩:=xej hb;have:kc'=kc:=by omega
 subst this;rw[hx] at hx'
 cases hx'
 obtain⟨-,-,hM,-⟩:=xbE hX;have h1:=hM kc' x (xae hx) hx;unfold rkE at h1
 split at h1
 ·cases h1
 ·split at h1
  ·cases h1
  ·have hall:=xbH h1
   rcases Nat.lt_trichotomy kk kn with hlt | heq | hgt
   ·have:=xep hall (kn-kk-1) kk a b hak (by rw[show kk+(kn-kk-1)+1=kn by omega];exact hbn)
    have h2:=xd3 this;rw[hn,xeK.2 rfl] at h2
    cases h2
   ·subst heq;rw[hak] at hbn
    cases hbn
    rfl
   ·have:=xep hall (kk-kn-1) kn b a hbn (by rw[show kn+(kk-kn-1)+1=kk by omega];exact hak)
    have h2:=xd3 this;rw[hn,xeK.2 rfl] at h2
    cases h2
def xcW (cs:List QC)(s:QS)(nm:ByteArray):Prop:=∃ n mt,∃ k:Nat,∃ x,xaO cs s.cls n=some mt/\mt.name=s.name/\s.at'=(k:Int)/\mt.code[k]?=some x/\x.op=14/\x.name=nm
theorem xmz {X:QW}(hX:xaJ X=0){s:QS}{a b:ByteArray}(ha:xcW X.cz s a)(hb:xcW X.cz s b):a=b:=by
 obtain⟨n,mt,k,x,h1,h2,h3,h4,-,rfl⟩:=ha;obtain⟨n',mt',k',x',h1',h2',h3',h4',-,rfl⟩:=hb;obtain rfl:mt=mt':=xhw hX h1 h1' (by rw[h2,h2'])
 obtain rfl:k=k':=by omega
 rw[h4] at h4'
 cases h4'
 rfl
theorem xmI:(Tryz.prog.info? 97).map (fun i=>(i.zero,i.size,i.bytes))=some (some (.agg #[.int .i64 0,.string ⟨#[]⟩,.int .i64 0,.slice none 0 0]),4,56):=by kernel_rfl
theorem xg9 (n:Nat)(hb:n*56<=281474976710656):xey 32 97 #[.int .i64 0,.string ⟨#[]⟩,.int .i64 0,.slice none 0 0] 4 n:=fun w=>xgj Tryz.underlying32 xmI (by omega) n hb rfl w
structure OwnT (w:World)(B:Nat)(xs:List QT)(j:Nat)(gs:Nat->Nat):Prop where
 row:∃ cur:Array Value,w.heap[B]?=some (.cells cur 97 (0,0))/\cur.size=xs.length*4
 rise:∀ i k,i<k->k<j->gs i<gs k
 reach:∀ i,i<j->B<gs i/\gs i<w.heap.size
 lz:∀ i x,i<j->xs[i]?=some x->OwnSt xda 2 72 w (gs i) x.lz x.lz.length
 cells:∀ i x,i<j->xs[i]?=some x->w.cell? ⟨B,i*4+0,none⟩=some (.int .i64 x.site.cls)/\w.cell? ⟨B,i*4+1,none⟩=some (.string x.site.name)/\w.cell? ⟨B,i*4+2,none⟩=some (.int .i64 x.site.at')/\w.cell? ⟨B,i*4+3,none⟩=some (.slice (some ⟨gs i,0,none⟩) x.lz.length x.lz.length)
theorem OwnT.later {w w':World}{B:Nat}{xs:List QT}{j:Nat}{gs:Nat->Nat}(h:OwnT w B xs j gs)(hb:Below w.heap.size w w'):OwnT w' B xs j gs where
 row:=by
  obtain⟨cur,h1,h2⟩:=h.row
  exact⟨cur,by rw[hb.block _ (xaf h1)];exact h1,h2⟩
 rise:=h.rise
 reach:=fun i hi=>⟨(h.reach i hi).1,qzE (h.reach i hi).2 hb.size⟩
 lz:=fun i x hi hx=>(h.lz i x hi hx).later xbq hb
 cells:=fun i x hi hx=>by
  obtain⟨h0,h1,h2,h3⟩:=h.cells i x hi hx
  exact⟨qzA hb h0,qzA hb h1,qzA hb h2,qzA hb h3⟩
theorem OwnT.start (w:World)(xs:List QT)(c:Array Value)(hc:c.size=xs.length*4):OwnT (w.alloc (.cells c 97)) w.heap.size xs 0 (fun _=>0):=
 ⟨⟨c,qzJ w _,hc⟩,fun _ _ _ h=>by omega,fun _ h=>by omega,fun _ _ h=>by omega,fun _ _ h=>by omega⟩
theorem OwnSt.ofBlock {α:Type}{E:Lay α}{sz:Nat}(G:Good E sz){t:TypeId}{w w':World}{B:Nat}{xs:List α}{j:Nat}(h:OwnSt E sz t w B xs j)(hs:w.heap.size<=w'.heap.size)(hb:∀ b,B<=b->b<w.heap.size->w'.heap[b]?=w.heap[b]?):OwnSt E sz t w' B xs j:=by
 obtain⟨⟨cur,h1,h2⟩,h3⟩:=h;have hB:=xaf h1;refine⟨⟨cur,by rw[hb _ (qzC _) hB];exact h1,h2⟩,fun i x hi hx=>?_⟩
 refine G.move (h3 i x hi hx) (fun b h=>⟨h.1,by omega⟩) (.of_block fun b h1 h2=>hb b (by omega) h2) fun k hk v hv=>?_
 unfold World.cell? at hv ⊢;rw[hb _ (qzC _) hB]
 exact hv
theorem OwnT.step {w:World}{B:Nat}{xs:List QT}{j:Nat}{gs:Nat->Nat}{x:QT}{g:Nat}(h:OwnT w B xs j gs)(hx:xs[j]?=some x)(hg:∀ i,i<j->gs i<g)(hB:B<g)(hgl:g<w.heap.size)(hl:OwnSt xda 2 72 w g x.lz x.lz.length) :
  OwnT (w.setCells B (j*4) [.int .i64 x.site.cls,.string x.site.name,.int .i64 x.site.at',.slice (some ⟨g,0,none⟩) x.lz.length x.lz.length]) B xs (j+1) (fun i=>if i=j then g else gs i):=by
 have hj:=xae hx;obtain⟨cur,h1,h2⟩:=h.row;have hz:=xbh (B:=B) [.int .i64 x.site.cls,.string x.site.name,.int .i64 x.site.at',.slice (some ⟨g,0,none⟩) x.lz.length x.lz.length] (j*4) w;have hin:=fun k (hk:k<4)=>World.cell?_setCells_in B [.int .i64 x.site.cls,.string x.site.name,.int .i64 x.site.at',.slice (some ⟨g,0,none⟩) x.lz.length x.lz.length] (j*4) w (fun q hq=>by rw[qzB h1];simp at hq;simp;omega) k (by simpa using hk)
 have hel:∀ b,b≠B->(w.setCells B (j*4) [.int .i64 x.site.cls,.string x.site.name,.int .i64 x.site.at',.slice (some ⟨g,0,none⟩) x.lz.length x.lz.length]).heap[b]?=w.heap[b]?:=fun b hb=>xaI hb _ _ _
 have hout:∀ i k,i<j->k<4->(w.setCells B (j*4) [.int .i64 x.site.cls,.string x.site.name,.int .i64 x.site.at',.slice (some ⟨g,0,none⟩) x.lz.length x.lz.length]).cell? ⟨B,i*4+k,none⟩=w.cell? ⟨B,i*4+k,none⟩:=fun i k hi hk=>by
  rw[World.cell?_setCells_out B _ (j*4) w _ (fun _ _=>Or.inl ?_)]
  simp;omega
 constructor
 ·exact xbJ _ _ w ⟨cur,h1,h2⟩
 ·intro i k hik hk
  by_cases hkj:k=j
  ·simp only[hkj,if_true];rw[if_neg (by omega)];exact hg i (by omega)
  ·rw[if_neg hkj,if_neg (by omega)];exact h.rise i k hik (by omega)
 ·intro i hi;rw[hz]
  by_cases hij:i=j
  ·simp only[hij,if_true];exact⟨hB,hgl⟩
  ·rw[if_neg hij];exact h.reach i (by omega)
 ·intro i y hi hy
  by_cases hij:i=j
  ·subst hij;rw[hx] at hy;cases hy;simp only[if_true]
   exact hl.ofBlock xbq (by rw[hz];exact qzC _) fun b hb _=>hel b (by omega)
  ·rw[if_neg hij];have hr:=(h.reach i (by omega)).1
   exact (h.lz i y (by omega) hy).ofBlock xbq (by rw[hz];exact qzC _) fun b hb _=>hel b (by omega)
 ·intro i y hi hy
  by_cases hij:i=j
  ·subst hij;rw[hx] at hy;cases hy;simp only[if_true]
   exact⟨hin 0 (by omega),hin 1 (by omega),hin 2 (by omega),hin 3 (by omega)⟩
  ·rw[if_neg hij,hout i 0 (by omega) (by omega),hout i 1 (by omega) (by omega),hout i 2 (by omega) (by omega),hout i 3 (by omega) (by omega)]
   exact h.cells i y (by omega) hy
theorem OwnSt.isLines {w:World}{g:Nat}{ls:List QL}(h:OwnSt xda 2 72 w g ls ls.length)(hm:ls.length<=maxLen){P:Nat->Prop}(hP:P g):xbI P w (.slice (some ⟨g,0,none⟩) ls.length ls.length) ls:=by
 obtain⟨⟨cur,h1,h2⟩,h3⟩:=h;refine⟨_,_,rfl,qzC _,hm,by simp,fun i x hx=>⟨g,0,rfl,hP,?_⟩⟩
 have:=h3 i x (xae hx) hx;simp only[Nat.zero_add]
 exact this
theorem OwnT.tallies {w:World}{B:Nat}{xs:List QT}{gs:Nat->Nat}(h:OwnT w B xs xs.length gs)(hm:xs.length<=maxLen)(hl:∀ x∈xs,x.lz.length<=maxLen){P:Nat->Prop}(hP:∀ b,B<=b->b<w.heap.size->P b):xbc P w (.slice (some ⟨B,0,none⟩) xs.length xs.length) xs:=by
 obtain⟨cur,h1,h2⟩:=h.row;refine⟨_,_,rfl,qzC _,hm,by simp,fun i x hx=>⟨B,0,rfl,hP _ (qzC _) (xaf h1),?_⟩⟩
 have hi:=xae hx;obtain⟨c0,c1,c2,c3⟩:=h.cells i x hi hx;have hr:=h.reach i hi;simp only[Nat.zero_add]
 exact⟨c0,c1,c2,_,c3,(h.lz i x hi hx).isLines (hl x (List.mem_of_getElem? hx)) (hP _ (by omega) hr.2)⟩
structure BoxT (w:World)(b:Nat)(x:QT)(lv:Value):Prop where
 c0:w.cell? ⟨b,0,none⟩=some (.int .i64 x.site.cls)
 c1:w.cell? ⟨b,1,none⟩=some (.string x.site.name)
 c2:w.cell? ⟨b,2,none⟩=some (.int .i64 x.site.at')
 c3:w.cell? ⟨b,3,none⟩=some lv
theorem BoxT.later {w w':World}{b:Nat}{x:QT}{lv:Value}(h:BoxT w b x lv)(hb:Below w.heap.size w w'):BoxT w' b x lv:=⟨qzA hb h.c0,qzA hb h.c1,qzA hb h.c2,qzA hb h.c3⟩
theorem BoxT.set {w:World}{b:Nat}{x:QT}{lv:Value}(h:BoxT w b x lv){a:Addr}(ha:b≠a.block)(u:Value):BoxT (w.setCell a u) b x lv:=by
 have hn:∀ k,a≠(⟨b,k,none⟩:Addr):=fun k e=>ha (by rw[e])
 exact⟨by rw[qzM _ _ _ _ (hn 0)];exact h.c0,by rw[qzM _ _ _ _ (hn 1)];exact h.c1,by rw[qzM _ _ _ _ (hn 2)];exact h.c2,by rw[qzM _ _ _ _ (hn 3)];exact h.c3⟩
theorem BoxT.all {w:World}{b:Nat}{x:QT}{lv:Value}(h:BoxT w b x lv):w.cell? ⟨b,0,none⟩=some (.int .i64 x.site.cls)/\w.cell? ⟨b,1,none⟩=some (.string x.site.name)/\w.cell? ⟨b,2,none⟩=some (.int .i64 x.site.at')/\w.cell? ⟨b,3,none⟩=some lv:=⟨h.c0,h.c1,h.c2,h.c3⟩
theorem xlL (w:World)(x:QT)(lv:Value)(t:TypeId):BoxT (w.alloc (.cells #[.int .i64 x.site.cls,.string x.site.name,.int .i64 x.site.at',lv] t)) w.heap.size x lv:=⟨by rw[xaa _ _ _ _ rfl];rfl,by rw[xaa _ _ _ _ rfl];rfl,by rw[xaa _ _ _ _ rfl];rfl,by rw[xaa _ _ _ _ rfl];rfl⟩
theorem xgF {P:Nat->Prop}(xs:List QT)(v:Value)(w:World)(hh:xbc P w v xs)(hby:xs.length*56<=281474976710656)(hls:∀ x∈xs,x.lz.length*16<=281474976710656):Calls Tryz.prog 21 #[v] w fun e w'=>∃ g gs,e=.returned (.slice (some ⟨g,0,none⟩) xs.length xs.length)/\OwnT w' g xs xs.length gs/\w.heap.size<=g/\Below w.heap.size w w':=by
 obtain⟨ad,cap,rfl,hl,hcap,-,hrow⟩:=hh;have hmk:=xg9 xs.length hby;go_enter Tryz.func21,Tryz.ntmps21;go_wp2
 go_loopg [11] xs.length (fun g c wr=>∃ (j:Nat) (gs:Nat->Nat),j+g=xs.length/\c=.int .i64 j/\Below w.heap.size w wr/\OwnT wr w.heap.size xs j gs/\w.heap.size<wr.heap.size)
 case atStart=>exact⟨0,_,by omega,rfl,xaj _ _,OwnT.start _ _ _ (size_madeCells _ _),by simp⟩
 case round=>
  obtain⟨j,gs,hj,rfl,hbel,hst,hz⟩:=hrel;clear hmk
  by_cases hlt:j<xs.length
  ·obtain⟨b,o,rfl,-,hv0,hv1,hv2,sv,hv3,hsl⟩:=hrow j xs[j] (by simp[hlt])
   have hxj:Hid (xs[j]?=some xs[j]):=by show _=_;simp[hlt]
   have hlj:=hls xs[j] (by simp)
   generalize xs[j]=x at *;simp only[Nat.add_zero] at hv0;have u0:=qzA hbel hv0;have u1:=qzA hbel hv1;have u2:=qzA hbel hv2;have u3:=qzA hbel hv3;have hsl2:=hsl.later xbq hbel;obtain⟨ad2,cap2,rfl,-,-,-,-⟩:=id hsl2;clear hv0 hv1 hv2 hv3 hsl hrow;have hj1:(j:Int)<(xs.length:Int):=by omega
   have hj0:(0:Int)<=(j:Int):=by omega
   go_wp2;have hbx:=(xlL wr x (.slice ad2 x.lz.length cap2) 97);have hW1:=xaj wr (Obj.cells #[Value.int .i64 x.site.cls,Value.string x.site.name,Value.int .i64 x.site.at',Value.slice ad2 x.lz.length cap2] 97);have hIV:=hsl2.later xbq hW1;have hst1:=hst.later hW1;have hbel1:=hbel.trans (hW1.mono (by omega))
   have hzz:(wr.alloc (Obj.cells #[Value.int .i64 x.site.cls,Value.string x.site.name,Value.int .i64 x.site.at',Value.slice ad2 x.lz.length cap2] 97)).heap.size=wr.heap.size+1:=by simp
   have hreach:=hst.reach;clear hsl2 hst u0 u1 u2 u3;generalize (wr.alloc (Obj.cells #[Value.int .i64 x.site.cls,Value.string x.site.name,Value.int .i64 x.site.at',Value.slice ad2 x.lz.length cap2] 97))=W1 at *;generalize wr.heap.size=B1 at *;have hbx1:=hbx.later (qzL _ W1).drew;have c0:=hbx1.c0;have c1:=hbx1.c1;have c2:=hbx1.c2;have c3:=hbx1.c3;have hIV1:=hIV.later xbq (qzL _ W1).drew;have hst2:=hst1.later (qzL _ W1).drew
   go_region_held3 (fun w'=>w'.cell? ⟨B1,0,none⟩=some (.int .i64 x.site.cls)/\w'.cell? ⟨B1,1,none⟩=some (.string x.site.name)/\w'.cell? ⟨B1,2,none⟩=some (.int .i64 x.site.at')/\w'.cell? ⟨B1,3,none⟩=some (Value.slice ad2 x.lz.length cap2))
    (first | exact hbx1.all | exact d1.all | exact ((((d1.set (by simp;omega) _).set (by simp;omega) _).set (by simp;omega) _).set (by simp;omega) _).all)
    (first | (go_at_call 40;refine (xge x.lz _ _ hIV1 hlj).mono ?_;rintro e w1 ⟨g,rfl,hown,hg,hb1⟩;have hst3:=hst2.later hb1;obtain⟨cur,k1,k2⟩:=id hst3.row;have f1:∀ o,w1.frozen? ⟨w.heap.size,o,none⟩=false:=fun o=>(by simp[World.frozen?,k1]);have d1:=hbx1.later hb1;have e0:w1.cell? ⟨w.heap.size,j*4,none⟩=some (cur[j*4]'(by omega)):=(by rw[qzB k1];simp);have e1:w1.cell? ⟨w.heap.size,j*4+1,none⟩=some (cur[j*4+1]'(by omega)):=(by rw[qzB k1];simp);have e2:w1.cell? ⟨w.heap.size,j*4+2,none⟩=some (cur[j*4+2]'(by omega)):=(by rw[qzB k1];simp);have e3:w1.cell? ⟨w.heap.size,j*4+3,none⟩=some (cur[j*4+3]'(by omega)):=(by rw[qzB k1];simp)))
   go_wp2
   go_roundg (gk-1)
   case measure=>omega
   case rel=>
    have hlt1:w.heap.size<w1.heap.size:=qzE (by simp;omega) hb1.size
    have hg':W1.heap.size<=g:=by simpa using hg
    refine⟨j+1,(fun i=>if i=j then g else gs i),by omega,by go_num,((((hbel1.drew.trans (hb1.mono (by simp;omega))).setCell (qzC _) _).setCell (qzC _) _).setCell (qzC _) _).setCell (qzC _) _,?_,by simp;omega⟩
    refine hst3.step hxj.out (g:=g) ?_ ?_ ?_ hown
    ·intro i hi;have:=(hreach i hi).2;omega
    ·omega
    ·obtain⟨cur',q1,-⟩:=hown.1;exact xaf q1
  ·obtain rfl:j=xs.length:=by omega
   go_wp2
   go_ret
   exact⟨_,_,rfl,hst,qzC _,hbel⟩
end Go.Proofs.YtapbeiccodnniaaGreat
