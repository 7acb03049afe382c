/- A part. -/
import Derived.Test.YtbafokihegegiaaGreatDoorM1
namespace Go.Proofs.YtbafokihegegiaaGreatDoor
open Go.ChangeShapes Go.WideShapes Go.ChangeAt Go.RowKit
set_option linter.unusedSimpArgs false
set_option linter.unusedVariables false
set_option maxHeartbeats 8000000
set_option maxRecDepth 8000
abbrev xa4:QV:=⟨0,0⟩
def xaK (l:List QV)(n:Int):QV:=if n<0 then xa4 else l[n.toNat]?.getD xa4
def xaP (l:List QV)(n:Int)(v:QV):List QV:=if n<0 then l else l.set n.toNat v
def xaL (l:List QV)(n:Int):QV:=xaK l ((l.length:Int)-1-n)
def xaC (n:Int):List QV:=List.replicate (min (max n 0) 40).toNat xa4
def xbI (l:List QV)(n:Int):Nat:=l.length-(max n 0).toNat
def xgD (h:List QO)(v:QV):Option QO:=if v.k=4/\0<=v.n then h[v.n.toNat]? else none
def xap (h:List QO)(v:QV):Int:=if v.k=0 then 1 else if v.k=1\/v.k=2 then 2 else if v.k=3 then 3 else ((xgD h v).map QO.cls).getD 0
def xep (h:List QO)(v:QV)(n:Int):QV:=((xgD h v).map fun o=>xaK o.slots n).getD xa4
def xbr (h:List QO)(v:QV)(n:Int)(x:QV):List QO:=match xgD h v with
 | none=>h
 | some o=>h.set v.n.toNat ⟨o.cls,xaP o.slots n x⟩
def xcV (p:Int)(a b:QV):QV × Int:=
 if a.k≠3\/b.k≠3 then (xa4,12)
 else if p=1 then (⟨3,(a.n+b.n).tmod 1073741825⟩,0)
 else if p=2 then (⟨3,(a.n-b.n).tmod 1073741825⟩,0)
 else if p=3 then (⟨3,(a.n*b.n).tmod 1073741825⟩,0)
 else if p=4 then (⟨if a.n<b.n then 2 else 1,0⟩,0)
 else if p=5 then (⟨if a.n=b.n then 2 else 1,0⟩,0)
 else (xa4,1)
structure Mc (σ:Type) where
 heap:List QO
 sz_:Int
 tz:Int
 st:σ
structure Fr where
 cls:Int
 meth:QM
 self:QV
 args:List QV
 temps:List QV
 stack:List QV
 code:List QI
 pc:Int
 fast:Bool
structure Env (σ:Type) where
 cz:List QC
 fuel:Int
 look:σ->QS->Int->ByteArray->σ × (Int × Int)
 quick:Int->Int->Option (List QI × Int)
section
variable {σ:Type}
abbrev Ent (σ:Type):=Mc σ->Int->Int->QV->List QV->Mc σ × QV × Int
def Fr.push (f:Fr)(v:QV):Fr:={ f with stack:=f.stack++[v] }
def Fr.pop (f:Fr):Fr:={ f with stack:=f.stack.dropLast }
def Fr.top (f:Fr):QV:=xaL f.stack 0
def Fr.site (f:Fr)(at':Int)(x:QI):QS:=⟨f.cls,f.meth.name,if f.fast then x.c else at'⟩
def Fr.leave (f:Fr)(at':Int):Fr:={ f with code:=f.meth.code,temps:=(xaC f.meth.temps).zipIdx.map (fun p=>(f.temps[p.2]?).getD xa4),pc:=at',fast:=false }
def xan (h:List QO)(f:Fr)(x:QI):Option QV:=
 if x.op=1 then some f.self else if x.op=2 then some (xaK f.args x.a) else if x.op=3 then some (xaK f.temps x.a) else if x.op=4 then some (xep h f.self x.a)
 else if x.op=5 then some ⟨3,x.a⟩ else if x.op=6 then some xa4 else if x.op=7 then some ⟨1,0⟩ else if x.op=8 then some ⟨2,0⟩ else none
def xa3 (m:Mc σ)(f:Fr)(at' tg:Int):Mc σ × Fr × Int:=
 let m':Mc σ:=if tg<=at' then { m with tz:=m.tz+1 } else m
 if 300<m'.tz then (m',f,16) else (m',{ f with pc:=tg },0)
def xar (E:Env σ)(d:Nat)(m:Mc σ):Mc σ × Int:=if E.fuel<=m.sz_ then (m,13) else if d=0 then (m,14) else ({ m with sz_:=m.sz_+1 },0)
def xbO (ent:Ent σ)(E:Env σ)(m:Mc σ)(f:Fr)(at':Int)(x:QI):Mc σ × Fr × Int:=
 let k:=xbI f.stack x.a
 let args:=f.stack.drop k
 let self:=xaL (f.stack.take k) 0
 let l:=E.look m.st (f.site at' x) (xap m.heap self) x.name
 let r:=ent { m with st:=l.1 } l.2.1 l.2.2 self args
 if r.2.2≠0 then (r.1,f,r.2.2) else (r.1,{ f with stack:=(f.stack.take k).dropLast++[r.2.1] },0)
def xci (E:Env σ)(m:Mc σ)(f:Fr)(c:Int):Mc σ × Fr × Int:=
 if 60<=m.heap.length\/2147483647<xbw E.cz c then (m,f,15)
 else ({ m with heap:=m.heap++[⟨c,List.replicate (xbw E.cz c).toNat xa4⟩] },f.push ⟨4,m.heap.length⟩,0)
def xbQ (m:Mc σ)(f:Fr)(at' tg:Int):Mc σ × Fr × Int:=if f.top.k=2 then (m,f.pop,0) else if f.top.k=1 then xa3 m f.pop at' tg else (m,f,11)
def xb7 (E:Env σ)(d:Nat)(m:Mc σ)(f:Fr)(x:QI):Mc σ × Fr × Int:=
 if f.fast=false then (m,f,1)
 else if x.op=18 then (m,if xap m.heap (xaL f.stack x.b)=x.a then f else f.leave x.c,0)
 else if x.op=19 then (m,f.push (xep m.heap (xaK f.temps x.a) x.b),0)
 else if x.op=20 then ({ m with heap:=xbr m.heap (xaK f.temps x.a) x.b f.top },f.pop,0)
 else if x.op=21 then ((xar E d m).1,f,(xar E d m).2)
 else (m,f,1)
def xaj (ent:Ent σ)(E:Env σ)(d:Nat)(m:Mc σ)(f:Fr)(at':Int)(x:QI):Mc σ × Fr × Int:=
 match xan m.heap f x with
 | some v=>(m,f.push v,0)
 | none=>
  if x.op=9 then (m,f.pop,0)
  else if x.op=10 then (m,f.push f.top,0)
  else if x.op=11 then (m,{ f.pop with temps:=xaP f.temps x.a f.top },0)
  else if x.op=12 then ({ m with heap:=xbr m.heap f.self x.a f.top },f.pop,0)
  else if x.op=13 then xci E m f x.a
  else if x.op=14 then xbO ent E m f at' x
  else if x.op=15 then xa3 m f at' x.a
  else if x.op=16 then xbQ m f at' x.a
  else xb7 E d m f x
def xck (ent:Ent σ)(E:Env σ)(d:Nat):Nat->Mc σ->Fr->Mc σ × QV × Int
 | 0,m,_=>(m,xa4,9)
 | g+1,m,f=>match (if f.pc<0 then none else f.code[f.pc.toNat]?) with
  | none=>(m,xa4,9)
  | some x=>
   if x.op=17 then (m,f.top,0)
   else
    let r:=xaj ent E d m { f with pc:=f.pc+1 } f.pc x
    if r.2.2≠0 then (r.1,xa4,r.2.2) else xck ent E d g r.1 r.2.1
def xaz (xs:List QC)(c n:Int):Option QM:=(xa8 xs c).bind fun x=>if 0<=n then x.mz[n.toNat]? else none
def xaT (E:Env σ)(c n:Int)(mt:QM)(self:QV)(args:List QV):Fr:=match E.quick c n with
 | none=>⟨c,mt,self,args,xaC mt.temps,[],mt.code,0,false⟩
 | some q=>⟨c,mt,self,args,xaC q.2,[],q.1,0,true⟩
def xi6 (f:Fr):Nat:=700*(f.code.length+f.meth.code.length+1)
def xbs (E:Env σ)(d:Nat)(body:Mc σ->Fr->Mc σ × QV × Int):Ent σ:=fun m c n self args=>match xaz E.cz c n with
 | none=>(m,xa4,10)
 | some mt=>
  if mt.args≠args.length then (m,xa4,8)
  else if mt.prim≠0 then (if E.fuel<=m.sz_ then (m,xa4,13) else ({ m with sz_:=m.sz_+1 },xcV mt.prim self (xaK args 0)))
  else if (xar E d m).2≠0 then (m,xa4,(xar E d m).2) else body (xar E d m).1 (xaT E c n mt self args)
def xbh (E:Env σ):Nat->Ent σ
 | 0=>xbs E 0 fun m _=>(m,xa4,14)
 | d+1=>xbs E (d+1) fun m f=>xck (xbh E d) E d (xi6 f) m f
theorem xfw (m:Mc σ)(f:Fr)(a b:Int):(xa3 m f a b).1.sz_=m.sz_:=by
 unfold xa3
 by_cases h:b<=a
 ·simp only[h,if_true];split<;>rfl
 ·simp only[h,if_false];split<;>rfl
theorem xhQ (E:Env σ)(m:Mc σ)(f:Fr)(c:Int):(xci E m f c).1.sz_=m.sz_:=by
 unfold xci;split<;>rfl
theorem xie (m:Mc σ)(f:Fr)(a b:Int):(xbQ m f a b).1.sz_=m.sz_:=by
 unfold xbQ
 split
 ·rfl
 ·split
  ·exact xfw _ _ _ _
  ·rfl
end
def xaA:List QV->List Value
 | []=>[]
 | v :: r=>.int .i64 v.k :: .int .i64 v.n :: xaA r
theorem xcz:∀ q,(xaA q).length=q.length*2
 | []=>rfl
 | p :: q=>by simp[xaA,xcz q];omega
theorem xdu:∀ q r,xaA (q++r)=xaA q++xaA r
 | [],r=>rfl
 | p :: q,r=>by simp[xaA,xdu q r]
theorem xeg:∀ {q:List QV} {i:Nat} {x:QV},q[i]?=some x->(xaA q)[i*2]?=some (.int .i64 x.k)/\(xaA q)[i*2+1]?=some (.int .i64 x.n)
 | [],i,x,h=>by simp at h
 | p :: q,0,x,h=>by simp at h;subst h;exact⟨rfl,rfl⟩
 | p :: q,i+1,x,h=>by
  have:=xeg (q:=q) (i:=i) (x:=x) (by simpa using h)
  rw[show (i+1)*2=i*2+1+1 by omega]
  exact this
theorem xh7:∀ (q:List QV) (i:Nat) (x:QV),((xaA q).set (i*2) (.int .i64 x.k)).set (i*2+1) (.int .i64 x.n)=xaA (q.set i x)
 | [],i,x=>by simp[xaA]
 | p :: q,0,x=>by simp[xaA]
 | p :: q,i+1,x=>by
  rw[show (i+1)*2=i*2+1+1 by omega]
  simp only[xaA,List.set_cons_succ];rw[xh7 q i x]
theorem xez:∀ (q:List QV) (n:Nat),(xaA q).take (n*2)=xaA (q.take n)
 | [],n=>by simp[xaA]
 | p :: q,0=>by simp[xaA]
 | p :: q,n+1=>by
  rw[show (n+1)*2=n*2+1+1 by omega]
  simp only[xaA,List.take_succ_cons];rw[xez q n]
theorem xgx:∀ (q:List QV) (n:Nat),(xaA q).drop (n*2)=xaA (q.drop n)
 | [],n=>by simp[xaA]
 | p :: q,0=>by simp[xaA]
 | p :: q,n+1=>by
  rw[show (n+1)*2=n*2+1+1 by omega]
  simp only[xaA,List.drop_succ_cons]
  exact xgx q n
theorem xif:∀ n,xaA (List.replicate n xa4)=List.replicate (n*2) (.int .i64 0)
 | 0=>rfl
 | n+1=>by
  rw[show (n+1)*2=n*2+1+1 by omega]
  simp only[List.replicate_succ,xaA];rw[xif n]
theorem xhE:∀ (q:List QV),∀ u∈xaA q,u.oneCell'=true
 | [],u,h=>by simp[xaA] at h
 | p :: q,u,h=>by
  simp only[xaA,List.mem_cons] at h
  rcases h with rfl | rfl | h
  ·rfl
  ·rfl
  ·exact xhE q u h
theorem xff {E:Unit}:∀ {cs:List Value} {xs:List QV} {P:Nat->Prop} {w:World},Cells xsv 2 P w cs xs->cs=xaA xs:=fun {cs xs P w} h=>by
 obtain⟨h1,h2⟩:=h
 apply List.ext_getElem?
 intro j
 by_cases hj:j<xs.length*2
 ·have hi:j / 2<xs.length:=by omega
  have hx:xs[j / 2]?=some xs[j / 2]:=by simp[hi]
  obtain⟨e1,e2⟩:=h2 _ _ hx;obtain⟨d1,d2⟩:=xeg hx
  rcases Nat.mod_two_eq_zero_or_one j with hm | hm
  ·have:j=j / 2*2:=by omega
   rw[this,d1];simpa using e1
  ·have:j=j / 2*2+1:=by omega
   rw[this,d2];simpa using e2
 ·rw[List.getElem?_eq_none (by omega),List.getElem?_eq_none (by rw[xcz];omega)]
structure Kp (S:Nat->Prop)(T:Nat->Nat)(w w':World):Prop where
 os:w'.os=w.os
 tape:w'.tape=w.tape
 output:w'.output=w.output
 size:w.heap.size<=w'.heap.size
 blk:∀ b,b<w.heap.size->¬ S (T b)->w'.heap[b]?=w.heap[b]?
def Ext (T T':Nat->Nat)(w:World):Prop:=∀ b,b<w.heap.size->T' b=T b
theorem Ext.refl (T:Nat->Nat)(w:World):Ext T T w:=fun _ _=>rfl
theorem Ext.trans {T T' T'':Nat->Nat}{w w':World}(h:Ext T T' w)(hs:w.heap.size<=w'.heap.size)(k:Ext T' T'' w'):Ext T T'' w:=fun b hb=>(k b (by omega)).trans (h b hb)
theorem Kp.refl (S:Nat->Prop)(T:Nat->Nat)(w:World):Kp S T w w:=⟨rfl,rfl,rfl,qzC _,fun _ _ _=>rfl⟩
theorem Kp.of_below {S:Nat->Prop}{T:Nat->Nat}{w w':World}(h:Below w.heap.size w w'):Kp S T w w':=⟨h.os,h.tape,h.output,h.size,fun b hb _=>h.block b hb⟩
theorem Kp.trans {S:Nat->Prop}{T T':Nat->Nat}{w w' w'':World}(h:Kp S T w w')(e:Ext T T' w)(k:Kp S T' w' w''):Kp S T w w'':=
 ⟨k.os.trans h.os,k.tape.trans h.tape,k.output.trans h.output,qzD h.size k.size,fun b hb hs=>(k.blk b (qzE hb h.size) (by rw[e b hb];exact hs)).trans (h.blk b hb hs)⟩
theorem Kp.on {S:Nat->Prop}{T:Nat->Nat}{w w' w'':World}(h:Kp S T w w')(k:Below w'.heap.size w' w''):Kp S T w w'':=h.trans (.refl _ _) (.of_below k)
theorem Kp.drew {S:Nat->Prop}{T:Nat->Nat}{w w':World}(h:Kp S T w w'):Kp S T w w'.drew:=⟨h.os,h.tape,h.output,h.size,h.blk⟩
theorem Kp.mono {S S':Nat->Prop}{T:Nat->Nat}{w w':World}(h:Kp S T w w')(hs:∀ t,S t->S' t):Kp S' T w w':=⟨h.os,h.tape,h.output,h.size,fun b hb n=>h.blk b hb fun k=>n (hs _ k)⟩
theorem Kp.tags {S:Nat->Prop}{T T':Nat->Nat}{w w':World}(h:Kp S T w w')(e:Ext T T' w):Kp S T' w w':=⟨h.os,h.tape,h.output,h.size,fun b hb n=>h.blk b hb (by rw[← e b hb];exact n)⟩
theorem Kp.below {S:Nat->Prop}{T:Nat->Nat}{w w':World}(h:Kp S T w w'){lo:Nat}(hl:∀ b,b<lo->¬ S (T b))(hs:lo<=w.heap.size):Below lo w w':=⟨h.os,h.tape,h.output,h.size,fun b hb=>h.blk b (by omega) (hl b hb)⟩
theorem Kp.set {S:Nat->Prop}{T:Nat->Nat}{w w':World}(h:Kp S T w w'){b:Nat}(hb:b<w.heap.size->S (T b))(o:Nat)(v:Value):Kp S T w (w'.setCell ⟨b,o,none⟩ v):=by
 have k:=Below.refl w'.heap.size w';have hd:Below 0 w' (w'.setCell ⟨b,o,none⟩ v):=(Below.refl 0 w').setCell (Nat.zero_le _) _;refine⟨hd.os.trans h.os,hd.tape.trans h.tape,hd.output.trans h.output,qzD h.size hd.size,fun c hc n=>?_⟩
 rw[xac (fun e=>n (by rw[e];exact hb (by omega)))]
 exact h.blk c hc n
theorem Kp.held {S:Nat->Prop}{T:Nat->Nat}{w w':World}(h:Kp S T w w'){b:Nat}{o:Obj}(hb:w.heap[b]?=some o)(hs:¬ S (T b)):w'.heap[b]?=some o:=by
 rw[h.blk b (xam hb) hs];exact hb
theorem Kp.cell {S:Nat->Prop}{T:Nat->Nat}{w w':World}(h:Kp S T w w'){b o:Nat}{v:Value}(hb:w.cell? ⟨b,o,none⟩=some v)(hs:¬ S (T b)):w'.cell? ⟨b,o,none⟩=some v:=by
 have hl:=World.block_lt_of_cell? w ⟨b,o,none⟩ hb;unfold World.cell? at hb ⊢;rw[h.blk b hl hs]
 exact hb
abbrev Fx (T:Nat->Nat)(w:World):Nat->Prop:=fun b=>b<w.heap.size/\T b=0
abbrev Hx (T:Nat->Nat)(w:World):Nat->Prop:=fun b=>b<w.heap.size/\T b=2
theorem IsRow.fx {α:Type}{E:Lay α}{sz bytes:Nat}{t:Nat}{T T':Nat->Nat}{S:Nat->Prop}{w w':World}{v:Value}{xs:List α}(h:IsRow E sz bytes (fun b=>b<w.heap.size/\T b=t) w v xs)(G:Good E sz)(e:Ext T T' w)(k:Kp S T w w')(h0:¬ S t):IsRow E sz bytes (fun b=>b<w'.heap.size/\T' b=t) w' v xs:=
 h.keep G (Keeps.of_block fun b hb hl=>k.blk b hl (by rw[hb.2];exact h0)) fun b hb=>⟨qzE hb.1 k.size,by rw[e b hb.1];exact hb.2⟩
def xbc (T:Nat->Nat)(w:World)(t:Nat):Nat->Nat:=fun b=>if b<w.heap.size then T b else t
theorem xaQ (T:Nat->Nat)(w:World)(t:Nat):Ext T (xbc T w t) w:=fun b hb=>by simp[xbc,hb]
theorem xba {T:Nat->Nat}{w:World}{t b:Nat}(h:w.heap.size<=b):xbc T w t b=t:=by simp[xbc];omega
def xla (T:Nat->Nat)(g t:Nat):Nat->Nat:=fun b=>if b=g then t else T b
theorem xgj {T:Nat->Nat}{w:World}{g t:Nat}(h:w.heap.size<=g):Ext T (xla T g t) w:=fun b hb=>by simp[xla];omega
theorem xfg (T:Nat->Nat)(g t:Nat):xla T g t g=t:=by simp[xla]
structure HeapSt (T:Nat->Nat)(w:World)(hv:Value)(g:Nat)(s:Nat->Nat)(xs:List QO):Prop where
 form:∃ cap,hv=.slice (some ⟨g,0,none⟩) xs.length cap/\xs.length<=cap/\cap<=maxLen
 len:xs.length*32<=140737488351232
 there:g<w.heap.size
 tg:T g=2
 obj:∀ i x,xs[i]?=some x->w.cell? ⟨g,i*2,none⟩=some (.int .i64 x.cls)/\w.cell? ⟨g,i*2+1,none⟩=some (.slice (some ⟨s i,0,none⟩) x.slots.length x.slots.length)/\w.heap[s i]?=some (.cells (xaA x.slots).toArray 41 (0,0))/\T (s i)=2/\s i≠g/\x.slots.length*16<=140737488351232
 inj:∀ i j,i<xs.length->j<xs.length->s i=s j->i=j
theorem xlQ {w:World}{g:Nat}{vs:List QV}{t:TypeId}(h:w.heap[g]?=some (.cells (xaA vs).toArray t (0,0))){i:Nat}{x:QV}(hx:vs[i]?=some x):w.cell? ⟨g,i*2,none⟩=some (.int .i64 x.k)/\w.cell? ⟨g,i*2+1,none⟩=some (.int .i64 x.n):=by
 rw[qzB h,qzB h];have:=xeg hx
 simpa using this
theorem xlU {w:World}{g:Nat}{vs:List QV}{t:TypeId}{P:Nat->Prop}(h:w.heap[g]?=some (.cells (xaA vs).toArray t (0,0)))(hP:P g)(hb:vs.length*16<=140737488351232):xaV P w (.slice (some ⟨g,0,none⟩) vs.length vs.length) vs:=by
 refine⟨_,_,rfl,qzC _,by unfold maxLen;omega,hb,fun i x hx=>⟨g,0,rfl,hP,?_⟩⟩
 have:=xlQ h hx;simp only[Nat.zero_add]
 exact⟨by simpa using this.1,this.2⟩
theorem HeapSt.heap {T:Nat->Nat}{w:World}{hv:Value}{g:Nat}{s:Nat->Nat}{xs:List QO}(h:HeapSt T w hv g s xs):xav (Hx T w) w hv xs:=by
 obtain⟨cap,rfl,h1,h2⟩:=h.form;refine⟨_,_,rfl,h1,h2,h.len,fun i x hx=>⟨g,0,rfl,⟨h.there,h.tg⟩,?_⟩⟩
 obtain⟨e1,e2,e3,e4,e5,e6⟩:=h.obj i x hx;simp only[Nat.zero_add]
 exact⟨by simpa using e1,_,e2,xlU e3 ⟨xam e3,e4⟩ e6⟩
theorem HeapSt.keep {T T':Nat->Nat}{S:Nat->Prop}{w w':World}{hv:Value}{g:Nat}{s:Nat->Nat}{xs:List QO}(h:HeapSt T w hv g s xs)(e:Ext T T' w)(k:Kp S T w w')(h2:¬ S 2):HeapSt T' w' hv g s xs:=by
 refine⟨h.form,h.len,qzE h.there k.size,by rw[e g h.there];exact h.tg,fun i x hx=>?_,h.inj⟩
 obtain⟨e1,e2,e3,e4,e5,e6⟩:=h.obj i x hx
 exact⟨k.cell e1 (by rw[h.tg];exact h2),k.cell e2 (by rw[h.tg];exact h2),k.held e3 (by rw[e4];exact h2),by rw[e _ (xam e3)];exact e4,e5,e6⟩
theorem xpO {w:World}{g:Nat}{vs:List QV}{t:TypeId}(h:w.heap[g]?=some (.cells (xaA vs).toArray t (0,0)))(j:Nat)(v:QV):((w.setCell ⟨g,j*2,none⟩ (.int .i64 v.k)).setCell ⟨g,j*2+1,none⟩ (.int .i64 v.n)).heap[g]?=some (.cells (xaA (vs.set j v)).toArray t (0,0)):=by
 rw[xae (xae h _),← xh7]
 simp
abbrev VV (v:QV):Value:=.agg #[.int .i64 v.k,.int .i64 v.n]
theorem xde {P:Nat->Prop}(l:List QV)(lv:Value)(n:Int)(w:World)(h:xaV P w lv l):Calls Tryz.prog 255 #[lv,.int .i64 n] w fun e w'=>e=.returned (VV (xaK l n))/\Below w.heap.size w w':=by
 obtain⟨ad,cap,rfl,hl,hcap,hby,hrow⟩:=h;unfold maxLen at hcap
 by_cases hn:n<0
 ·have HE:Hid (xaK l n=xa4):=by show _=_;unfold xaK;rw[if_pos hn]
  have hn':decide (n<0)=true:=by simpa using hn
  go_enter Tryz.func255,Tryz.ntmps255;go_wp2;refine bodyPost_ret (v:=VV xa4) ?_ rfl ⟨by rw[HE.out],xai _ _⟩
  simp[results,Tryz.results255,go_sem]
 ·have hn':decide (n<0)=false:=by simpa using hn
  obtain⟨k,rfl⟩:∃ k:Nat,n=k:=⟨n.toNat,by omega⟩
  by_cases hk:k<l.length
  ·have hx:l[k]?=some l[k]:=by simp[hk]
   have HE:Hid (xaK l k=l[k]):=by show _=_;unfold xaK;rw[if_neg hn];simp[hk]
   generalize l[k]=x at *;obtain⟨b,o,rfl,-,h0,h1⟩:=hrow k x hx;simp only[Nat.add_zero] at h0;have c0:=qzA (xai w (.cells #[.int .i64 0,.int .i64 0] 41)) h0;have c1:=qzA (xai w (.cells #[.int .i64 0,.int .i64 0] 41)) h1;have hk1:(k:Int)<(l.length:Int):=by omega
   have hk2:¬ ((l.length:Int)<=(k:Int)):=by omega
   go_enter Tryz.func255,Tryz.ntmps255;go_wp2;refine bodyPost_ret (v:=VV x) ?_ rfl ⟨by rw[HE.out],xai _ _⟩
   simp[results,Tryz.results255,go_sem]
  ·have HE:Hid (xaK l k=xa4):=by show _=_;unfold xaK;rw[if_neg hn];simp[hk]
   have hk2:((l.length:Int)<=(k:Int)):=by omega
   go_enter Tryz.func255,Tryz.ntmps255;go_wp2;refine bodyPost_ret (v:=VV xa4) ?_ rfl ⟨by rw[HE.out],xai _ _⟩
   simp[results,Tryz.results255,go_sem]
theorem xpB (n:Nat):madeCells #[.int .i64 0,.int .i64 0] (n*2)=(xaA (List.replicate n xa4)).toArray:=by
 rw[xif];unfold madeCells
 apply Array.ext
 ·simp
 ·intro i h1 h2
  simp
  rcases Nat.mod_two_eq_zero_or_one i with h | h<;>simp[h]
theorem xhm (n:Int)(w:World):Calls Tryz.prog 256 #[.int .i64 n] w fun e w'=>∃ g,e=.returned (.slice (some ⟨g,0,none⟩) (xaC n).length (xaC n).length)/\w'.heap[g]?=some (.cells (xaA (xaC n)).toArray 41 (0,0))/\w.heap.size<=g/\Below w.heap.size w w':=by
 by_cases hn:n<0
 ·have HR:Hid (xaC n=List.replicate 0 xa4):=by show _=_;unfold xaC;congr 1;omega
  have hmk:∀ w:World,(Instr.makeSlice 52 (.int .i64 0) (.int .i64 0)).run Tryz.prog w=.ok (.slice (some ⟨w.heap.size,0,none⟩) 0 0) (w.alloc (.cells (madeCells #[.int .i64 0,.int .i64 0] (0*2)) 41)):=xd2 0 (by omega)
  have hn':decide (n<0)=true:=by simpa using hn
  go_enter Tryz.func256,Tryz.ntmps256;go_wp2
  go_ret
  rw[HR.out,List.length_replicate]
  exact⟨_,rfl,by rw[← xpB];exact heap_alloc_new _ _,qzC _,xai _ _⟩
 ·obtain⟨m,rfl⟩:∃ m:Nat,n=(m:Int):=⟨n.toNat,by omega⟩
  by_cases hm4:m<=40
  ·have HR:Hid (xaC m=List.replicate m xa4):=by show _=_;unfold xaC;congr 1;omega
   have hmk:=xd2 m (by omega)
   have hm5:(m:Int)<=40:=by omega
   have hm6:¬ (40<(m:Int)):=by omega
   go_enter Tryz.func256,Tryz.ntmps256;go_wp2
   go_ret
   rw[HR.out,List.length_replicate]
   exact⟨_,rfl,by rw[← xpB];exact heap_alloc_new _ _,qzC _,xai _ _⟩
  ·have HR:Hid (xaC m=List.replicate 40 xa4):=by show _=_;unfold xaC;congr 1;omega
   have hmk:∀ w:World,(Instr.makeSlice 52 (.int .i64 40) (.int .i64 40)).run Tryz.prog w=.ok (.slice (some ⟨w.heap.size,0,none⟩) 40 40) (w.alloc (.cells (madeCells #[.int .i64 0,.int .i64 0] (40*2)) 41)):=xd2 40 (by omega)
   have hm5:40<(m:Int):=by omega
   go_enter Tryz.func256,Tryz.ntmps256;go_wp2
   go_ret
   rw[HR.out,List.length_replicate]
   exact⟨_,rfl,by rw[← xpB];exact heap_alloc_new _ _,qzC _,xai _ _⟩
theorem xf1 (l:List QV)(g:Nat)(n:Int)(v:QV)(w:World)(h:w.heap[g]?=some (.cells (xaA l).toArray 41 (0,0))):Calls Tryz.prog 273 #[.slice (some ⟨g,0,none⟩) l.length l.length,.int .i64 n,VV v] w fun e w'=>e=.returned (.tuple #[])/\w'.heap[g]?=some (.cells (xaA (xaP l n v)).toArray 41 (0,0))/\w.heap.size<w'.heap.size/\∀ (S:Nat->Prop) (T:Nat->Nat),S (T g)->Kp S T w w':=by
 have hgl:=xam h;have hb1:=xai w (.cells #[.int .i64 v.k,.int .i64 v.n] 41);have h1:=xaa h hb1
 by_cases hn:n<0
 ·have HE:Hid (xaP l n v=l):=by show _=_;unfold xaP;rw[if_pos hn]
  have hn':decide (0<=n)=false:=by simpa using hn
  go_enter Tryz.func273,Tryz.ntmps273;go_wp2;refine bodyPost_end (v:=.tuple #[]) (by simp[results,Tryz.results273,go_sem]) rfl ⟨rfl,by rw[HE.out];exact h1,by simp,fun S T hs=>Kp.of_below (xai _ _)⟩
 ·obtain⟨k,rfl⟩:∃ k:Nat,n=k:=⟨n.toNat,by omega⟩
  have HE:Hid (xaP l k v=l.set k v):=by show _=_;unfold xaP;rw[if_neg hn];simp
  have hn':decide (0<=(k:Int))=true:=by simp
  by_cases hk:k<l.length
  ·have hk1:(k:Int)<(l.length:Int):=by omega
   obtain⟨c0,c1⟩:=xlQ h1 (show l[k]?=some l[k] by simp[hk])
   have f0:∀ o,(w.alloc (.cells #[.int .i64 v.k,.int .i64 v.n] 41)).frozen? ⟨g,o,none⟩=false:=fun o=>by unfold World.frozen?;simp only[h1];simp
   have hset:=xpO h1 k v;have b0:=(xab w #[.int .i64 v.k,.int .i64 v.n] 41 _ rfl 0);have b1:=(xab w #[.int .i64 v.k,.int .i64 v.n] 41 _ rfl 1);have HK:Hid (∀ (S:Nat->Prop) (T:Nat->Nat),Kp S T w (w.alloc (.cells #[.int .i64 v.k,.int .i64 v.n] 41))):=fun S T=>Kp.of_below (xai _ _)
   have hz:w.heap.size<(w.alloc (.cells #[.int .i64 v.k,.int .i64 v.n] 41)).heap.size:=by simp
   have hne:¬ w.heap.size=g:=by omega
   have hne':¬ g=w.heap.size:=by omega
   go_enter Tryz.func273,Tryz.ntmps273
   go_upto_region 1 with (fail)
   generalize (w.alloc (.cells #[.int .i64 v.k,.int .i64 v.n] 41))=W at *
   simp at b0 b1
   go_wp2;refine bodyPost_end (v:=.tuple #[]) (by simp[results,Tryz.results273,go_sem]) rfl ⟨rfl,by rw[HE.out];exact hset,by simpa using hz,fun S T hs=>((HK.out S T).set (fun _=>hs) _ _).set (fun _=>hs) _ _⟩
  ·have hk1:((l.length:Int)<=(k:Int)):=by omega
   have hs:l.set k v=l:=List.set_eq_of_length_le (by omega)
   go_enter Tryz.func273,Tryz.ntmps273;go_wp2;refine bodyPost_end (v:=.tuple #[]) (by simp[results,Tryz.results273,go_sem]) rfl ⟨rfl,by rw[HE.out,hs];exact h1,by simp,fun S T hs=>Kp.of_below (xai _ _)⟩
theorem hid {p:Prop}(h:p):Hid p:=h
theorem xhu {P:Program}{ops:Array Oper}{o:Oper}{a:Act}{w w':World}{K:Act->World->Prop}{Q:Exit->Act->World->Prop}{E:Prop}(hg:o.guard=none)(s x:Operand)(T:TypeId)(hop:o.op=Op.call { callee:=Callee.builtin Builtin.append,args:=#[s,x],argTypes:=#[T,T] })
  (vs vx v':Value) (hs:a.eval s=vs) (hx:a.eval x=vx) (hrun:(Builtin.append_ #[T,T] o.type #[vs,vx]).run P w=.ok v' w') (hK:K (a.put o.dst v') w'):if Region.wanted o (yielded ops a.tmps)=true then Oper.wp P o a w K Q else E:=by
 have hw:Region.wanted o (yielded ops a.tmps)=true:=by simp[Region.wanted,hg]
 rw[if_pos hw];unfold Oper.wp
 simp[execOp,hop,resolve,invoke,builtin,hs,hx,hrun,Result.andThen]
 exact hK
theorem xaq {w:World}{b:Nat}{cur:Array Value}{t:TypeId}(h:w.heap[b]?=some (.cells cur t (0,0)))(o:Nat):w.frozen? ⟨b,o,none⟩=false:=by unfold World.frozen?;simp[h]
theorem ownsAt.vals {w:World}{base:Nat}{v:Value}{xs:List QV}(h:ownsAt w base 41 2 v xs.length (xaA xs))(hb:xs.length*16<=140737488351232):xaV (fun b=>v.ownBlock=some b) w v xs:=by
 obtain⟨h1,⟨rfl,h2⟩ | ⟨g,o,cap,cur,rfl,h3,h4,h5,h6,h7,h8⟩⟩:=h
 ·have:xs=[]:=List.eq_nil_of_length_eq_zero h2;subst this
  exact⟨none,0,rfl,by simp,by simp,by simp,fun i x hx=>by simp at hx⟩
 ·refine⟨_,_,rfl,h5,h6,hb,fun i x hx=>⟨g,o,rfl,rfl,?_⟩⟩
  have hi:=xad hx
  have hcell:∀ j,j<xs.length*2->w.cell? ⟨g,o+j,none⟩=(xaA xs)[j]?:=fun j hj=>by
   rw[← h8,qzB h4,List.getElem?_take,if_pos hj,List.getElem?_drop]
   simp
  obtain⟨e1,e2⟩:=xeg hx
  exact⟨by show w.cell? ⟨g,o+i*2+0,none⟩=_;rw[Nat.add_zero,hcell _ (by omega)];exact e1,by show w.cell? ⟨g,o+i*2+1,none⟩=_;rw[Nat.add_assoc,hcell _ (by omega)];exact e2⟩
theorem ownsAt.take {w:World}{base n:Nat}{a:Option Addr}{cap:Nat}{xs:List QV}(h:ownsAt w base 41 2 (.slice a n cap) n (xaA xs)){k:Nat}(hk:k<=n):ownsAt w base 41 2 (.slice a k cap) k (xaA (xs.take k)):=by
 have hx:xs.length=n:=by have:=h.1;rw[xcz] at this;omega
 obtain⟨h1,⟨e,h2⟩ | ⟨g,o,cap',cur,e,h3,h4,h5,h6,h7,h8⟩⟩:=h
 ·cases e
  obtain rfl:k=0:=by omega
  exact⟨by simp[xaA],Or.inl ⟨rfl,rfl⟩⟩
 ·cases e
  refine⟨by rw[xcz,List.length_take];omega,Or.inr ⟨g,o,cap,cur,rfl,h3,h4,by omega,h6,h7,?_⟩⟩
  rw[← xez,← h8,List.take_take]
  congr 1
  omega
abbrev FB (f:Fr)(cv av tv sv kv:Value):Obj:=.cells #[.int .i64 f.cls,.string f.meth.name,.int .i64 f.meth.args,.int .i64 f.meth.temps,.int .i64 f.meth.prim,cv,.int .i64 f.self.k,.int .i64 f.self.n,av,tv,sv,kv,.int .i64 f.pc,.bool f.fast] 302 (0,0)
structure FrAt (T:Nat->Nat)(K:Nat)(w:World)(fb:Nat)(f:Fr)(cv av tv sv kv:Value):Prop where
 box:w.heap[fb]?=some (FB f cv av tv sv kv)
 tag:T fb=K
 args:xaV (Fx T w) w av f.args
 temps:∃ tb,tv=.slice (some ⟨tb,0,none⟩) f.temps.length f.temps.length/\w.heap[tb]?=some (.cells (xaA f.temps).toArray 41 (0,0))/\T tb=K+1/\f.temps.length<=40
 stack:ownsAt w 0 41 2 sv f.stack.length (xaA f.stack)
 stag:∀ g,sv.ownBlock=some g->T g=K+2
 few:f.stack.length<=1000000000
 code:xaG (Fx T w) w kv f.code
 meth:xaG (Fx T w) w cv f.meth.code
 pos:5<=K
section
variable {T T':Nat->Nat} {K:Nat} {w w':World} {fb:Nat} {f:Fr} {cv av tv sv kv:Value}
theorem FrAt.keep {S:Nat->Prop}(h:FrAt T K w fb f cv av tv sv kv)(e:Ext T T' w)(k:Kp S T w w')(h0:¬ S 0)(h1:¬ S K)(h2:¬ S (K+1))(h3:¬ S (K+2)):FrAt T' K w' fb f cv av tv sv kv:=by
 obtain⟨tb,e1,e2,e3,e4⟩:=h.temps;refine⟨k.held h.box (by rw[h.tag];exact h1),by rw[e _ (xam h.box)];exact h.tag,h.args.fx xa7 e k h0,⟨tb,e1,k.held e2 (by rw[e3];exact h2),by rw[e _ (xam e2)];exact e3,e4⟩,h.stack.keep fun g hg=>k.blk g (h.stack.lt g hg).2 (by rw[h.stag g hg];exact h3),fun g hg=>by rw[e _ (h.stack.lt g hg).2];exact h.stag g hg,h.few,h.code.fx xaU e k h0,h.meth.fx xaU e k h0,h.pos⟩
theorem FrAt.later (h:FrAt T K w fb f cv av tv sv kv)(hb:Below w.heap.size w w'):FrAt T K w' fb f cv av tv sv kv:=h.keep (S:=fun _=>False) (.refl _ _) (.of_below hb) id id id id
theorem FrAt.turn {f':Fr}{sv':Value}(h:FrAt T K w fb f cv av tv sv kv)(k:Kp (fun t=>t=K) T w w')(hb:w'.heap[fb]?=some (FB f' cv av tv sv' kv))(e1:f'.args=f.args)(e2:f'.temps=f.temps)(e3:f'.code=f.code)(e4:f'.meth=f.meth)(hs:ownsAt w 0 41 2 sv' f'.stack.length (xaA f'.stack))(ho:∀ g,sv'.ownBlock=some g->T g=K+2)(hf:f'.stack.length<=1000000000):FrAt T K w' fb f' cv av tv sv' kv:=by
 obtain⟨tb,d1,d2,d3,d4⟩:=h.temps;have hp:=h.pos;refine⟨hb,h.tag,by rw[e1];exact h.args.fx xa7 (.refl _ _) k (by omega),⟨tb,by rw[e2];exact d1,by rw[e2];exact k.held d2 (by rw[d3];omega),d3,by rw[e2];exact d4⟩,hs.keep fun g hg=>k.blk g (hs.lt g hg).2 (by rw[ho g hg];omega),ho,hf,by rw[e3];exact h.code.fx xaU (.refl _ _) k (by omega),by rw[e4];exact h.meth.fx xaU (.refl _ _) k (by omega),hp⟩
theorem FrAt.cut {a:Option Addr}{cap m:Nat}(h:FrAt T K w fb f cv av tv (.slice a f.stack.length cap) kv)(k:Kp (fun t=>t=K) T w w')(hb:w'.heap[fb]?=some (FB { f with stack:=f.stack.take m } cv av tv (.slice a m cap) kv))(hm:m<=f.stack.length):FrAt T K w' fb { f with stack:=f.stack.take m } cv av tv (.slice a m cap) kv:=by
 have hl:(f.stack.take m).length=m:=by rw[List.length_take];omega
 refine h.turn k hb rfl rfl rfl rfl ?_ (fun g hg=>h.stag g (by cases a<;>exact hg)) (by show (f.stack.take m).length<=_;rw[hl];have:=h.few;omega)
 show ownsAt w 0 41 2 _ (f.stack.take m).length _
 rw[hl]
 exact h.stack.take hm
theorem FrAt.vals (h:FrAt T K w fb f cv av tv sv kv):xaV (fun b=>sv.ownBlock=some b) w sv f.stack:=h.stack.vals (by have:=h.few;omega)
end
theorem xpH {n:Nat}(h:n<=1000000000)(k:Int)(hk:0<=k/\k<=9223372036854775807):IntKind.i64.wrap (IntKind.i64.wrap ((n:Int)-1)-k)=(n:Int)-1-k:=by
 rw[xal (n:=(n:Int)-1) (by omega) (by omega),xal (by omega) (by omega)]
theorem xhp {T:Nat->Nat}{K:Nat}{w:World}{fb:Nat}{f:Fr}{cv av tv sv kv:Value}(h:FrAt T K w fb f cv av tv sv kv)(n:Int)(hn:0<=n/\n<=9223372036854775807):Calls Tryz.prog 270 #[.pointer (some ⟨fb,0,none⟩),.int .i64 n] w fun e w'=>e=.returned (VV (xaL f.stack n))/\Below w.heap.size w w':=by
 have hv:=h.vals;have hlt:=xam h.box;have c0:w.cell? ⟨fb,10,none⟩=some sv:=by rw[qzB h.box];rfl
 have hfew:=h.few;have HR:Hid (IntKind.i64.wrap (IntKind.i64.wrap ((f.stack.length:Int)-1)-n)=(f.stack.length:Int)-1-n):=xpH hfew n hn;clear h;obtain⟨a,cap,rfl,-⟩:=id hv;have hb1:Below w.heap.size w (w.alloc (.cells #[.int .i64 0,.int .i64 0] 41)).drew:=(xai w _).drew;have hv1:=hv.later xa7 hb1;have c1:=qzA hb1 c0;have r0:(w.alloc (.cells #[.int .i64 0,.int .i64 0] 41)).drew.cell? ⟨w.heap.size,0,none⟩=some (.int .i64 0):=xab w #[.int .i64 0,.int .i64 0] 41 _ rfl 0;have r1:(w.alloc (.cells #[.int .i64 0,.int .i64 0] 41)).drew.cell? ⟨w.heap.size,1,none⟩=some (.int .i64 0):=xab w #[.int .i64 0,.int .i64 0] 41 _ rfl 1
 have rf:∀ o,(w.alloc (.cells #[.int .i64 0,.int .i64 0] 41)).drew.frozen? ⟨w.heap.size,o,none⟩=false:=xaq (heap_alloc_new w (.cells #[.int .i64 0,.int .i64 0] 41));have hz:w.heap.size<(w.alloc (.cells #[.int .i64 0,.int .i64 0] 41)).drew.heap.size:=by simp
 clear hv c0;go_enter Tryz.func270,Tryz.ntmps270
 go_upto_region 1 with (fail)
 generalize (w.alloc (.cells #[.int .i64 0,.int .i64 0] 41))=W at *
 go_region_held3 (fun w'=>w'.cell? ⟨fb,10,none⟩=some (Value.slice a f.stack.length cap))
  (first | with_reducible exact c1 | with_reducible exact c2 | exact (World.cell?_setCell_far _ _ _ _ (by simp;omega)).trans ((World.cell?_setCell_far _ _ _ _ (by simp;omega)).trans c2))
  (first | (go_at_call 255;rw[HR.out];refine (xde f.stack _ _ _ hv1).mono ?_;rintro e w1 ⟨rfl,hb2⟩;have c2:=qzA hb2 c1;have s0:=qzA hb2 r0;have s1:=qzA hb2 r1;have sf:∀ o,w1.frozen? ⟨w.heap.size,o,none⟩=false:=fun o=>(hb2.frozen (p:=⟨w.heap.size,o,none⟩) hz).trans (rf o)))
 go_wp2;refine bodyPost_ret (v:=VV (xaL f.stack n)) ?_ rfl ⟨rfl,((xaf hb1 hb2).setCell (by simp) _).setCell (by simp) _⟩
 simp[results,Tryz.results270,go_sem,s0,s1]
 exact⟨rfl,rfl⟩
theorem xgv (w:World):w.drew.heap=w.heap:=rfl
theorem xgk {w:World}{fb:Nat}{f:Fr}{cv av tv sv kv:Value}(h:w.heap[fb]?=some (FB f cv av tv sv kv))(l:List QV)(sv':Value):(w.setCell ⟨fb,10,none⟩ sv').heap[fb]?=some (FB { f with stack:=l } cv av tv sv' kv):=by
 rw[xae h];rfl
theorem xeM {T:Nat->Nat}{K:Nat}{w:World}{fb:Nat}{f:Fr}{cv av tv sv kv:Value}(h:FrAt T K w fb f cv av tv sv kv):Calls Tryz.prog 257 #[.pointer (some ⟨fb,0,none⟩)] w fun e w'=>e=.returned (VV f.top)/\(∃ sv',FrAt T K w' fb f.pop cv av tv sv' kv)/\Kp (fun t=>t=K) T w w':=by
 have hlt:=xam h.box;have hb1:Below w.heap.size w (w.alloc (.cells #[.int .i64 0,.int .i64 0] 41)):=xai w _;have h1:=h.later hb1;have r0:(w.alloc (.cells #[.int .i64 0,.int .i64 0] 41)).cell? ⟨w.heap.size,0,none⟩=some (.int .i64 0):=xab w #[.int .i64 0,.int .i64 0] 41 _ rfl 0;have r1:(w.alloc (.cells #[.int .i64 0,.int .i64 0] 41)).cell? ⟨w.heap.size,1,none⟩=some (.int .i64 0):=xab w #[.int .i64 0,.int .i64 0] 41 _ rfl 1;have rf:∀ o,(w.alloc (.cells #[.int .i64 0,.int .i64 0] 41)).frozen? ⟨w.heap.size,o,none⟩=false:=xaq (heap_alloc_new w (.cells #[.int .i64 0,.int .i64 0] 41));have hz:w.heap.size<(w.alloc (.cells #[.int .i64 0,.int .i64 0] 41)).heap.size:=by simp
 have HF:Hid (FrAt T K w fb f cv av tv sv kv):=h;have hfew:=h.few;clear h;go_enter Tryz.func257,Tryz.ntmps257
 go_upto_region 1 with (fail)
 generalize (w.alloc (.cells #[.int .i64 0,.int .i64 0] 41))=W at *;go_wp2_with fail;refine (xhp h1 0 ⟨by omega,by omega⟩).mono ?_
 rintro e w1 ⟨rfl,hb2⟩;have h2:=h1.later hb2;have hbb:=xaf hb1 hb2;have s0:=qzA hb2 r0;have s1:=qzA hb2 r1;have sf:∀ o,w1.frozen? ⟨w.heap.size,o,none⟩=false:=fun o=>(hb2.frozen (p:=⟨w.heap.size,o,none⟩) hz).trans (rf o)
 have c0:w1.cell? ⟨fb,10,none⟩=some sv:=by rw[qzB h2.box];rfl
 have cf:=xaq h2.box;have hz2:=hb2.size;have hzz:¬ fb=w.heap.size:=by omega
 have hzz':¬ w.heap.size=fb:=by omega
 have hbx:=h2.box;have hst:=h2.stack;have hl1:fb<w1.heap.size:=by omega
 have hl2:w.heap.size<w1.heap.size:=by omega
 obtain⟨a,cap,rfl,hc1,hc2⟩:=hst.form;unfold maxLen at hc2;have HT:Hid (f.top=xaL f.stack 0):=rfl;have HS:Hid (ownsAt w1 0 41 2 (.slice a f.stack.length cap) f.stack.length (xaA f.stack)):=hst;have H2:Hid (FrAt T K w1 fb f cv av tv (.slice a f.stack.length cap) kv):=h2;have HX:Hid (w1.heap[fb]?=some (FB f cv av tv (.slice a f.stack.length cap) kv)):=hbx;clear h1 h2 r0 r1 rf hst hbx hb1 hb2;obtain⟨v,hv⟩:∃ v,v=xaL f.stack 0:=⟨_,rfl⟩;rw[← hv] at HT ⊢;clear hv;go_wp2;have HK:Hid (Kp (fun t=>t=K) T w1 (w1.alloc (.cells #[.int .i64 v.k,.int .i64 v.n] 41))):=Kp.of_below (xai _ _)
 have H3:Hid (FrAt T K (w1.alloc (.cells #[.int .i64 v.k,.int .i64 v.n] 41)) fb f cv av tv (.slice a f.stack.length cap) kv):=H2.out.later (xai _ _);have d0:=qzA (xai w1 (.cells #[.int .i64 v.k,.int .i64 v.n] 41)) c0;have df:∀ o,(w1.alloc (.cells #[.int .i64 v.k,.int .i64 v.n] 41)).frozen? ⟨fb,o,none⟩=false:=xaq H3.out.box;have u0:=qzA (xai w1 (.cells #[.int .i64 v.k,.int .i64 v.n] 41)) s0;have u1:=qzA (xai w1 (.cells #[.int .i64 v.k,.int .i64 v.n] 41)) s1;have uf:∀ o,(w1.alloc (.cells #[.int .i64 v.k,.int .i64 v.n] 41)).frozen? ⟨w.heap.size,o,none⟩=false:=fun o=>((xai w1 _).frozen (p:=⟨w.heap.size,o,none⟩) hl2).trans (sf o)
 have b0:(w1.alloc (.cells #[.int .i64 v.k,.int .i64 v.n] 41)).cell? ⟨w1.heap.size,0,none⟩=some (.int .i64 v.k):=xab _ _ _ _ rfl 0;have b1:(w1.alloc (.cells #[.int .i64 v.k,.int .i64 v.n] 41)).cell? ⟨w1.heap.size,1,none⟩=some (.int .i64 v.n):=xab _ _ _ _ rfl 1;have n1:¬ w1.heap.size=fb:=by omega
 have n2:¬ w1.heap.size=w.heap.size:=by omega
 have n3:¬ w.heap.size=w1.heap.size:=by omega
 have n4:¬ fb=w1.heap.size:=by omega
 have HBV:Hid (Below w.heap.size w (w1.alloc (.cells #[.int .i64 v.k,.int .i64 v.n] 41))):=xaf hbb (xai _ _);clear s0 s1 sf c0 cf H2 HS HX;generalize (w1.alloc (.cells #[.int .i64 v.k,.int .i64 v.n] 41))=V at *;have HL:Hid (f.pop={ f with stack:=f.stack.take (f.stack.length-1) }):=by show _=_;unfold Fr.pop;rw[List.dropLast_eq_take]
 by_cases h0:f.stack.length=0
 ·have hw:IntKind.i64.wrap (((0:Nat):Int)-1)=-1:=by rfl
  have h0':Hid (f.stack.length-1=0):=by show _=_;omega
  rw[h0] at d0
  go_region
  go_wp2;refine bodyPost_ret (v:=VV v) ?_ rfl ⟨by rw[HT.out],⟨.slice a 0 cap,?_⟩,?_⟩
  ·simp[results,Tryz.results257,go_sem,u0,u1,n2,n3]
  ·rw[HL.out,h0'.out];refine HF.out.cut (m:=0) ?_ ?_ (by omega)
   ·exact (((((Kp.of_below HBV.out).set (fun _=>HF.out.tag) _ _).set (fun h=>absurd h (Nat.lt_irrefl _)) _ _).set (fun h=>absurd h (Nat.lt_irrefl _)) _ _)).drew
   ·rw[xgv,xac hzz,xac hzz]
    exact xgk H3.out.box _ _
  ·exact (((((Kp.of_below HBV.out).set (fun _=>HF.out.tag) _ _).set (fun h=>absurd h (Nat.lt_irrefl _)) _ _).set (fun h=>absurd h (Nat.lt_irrefl _)) _ _)).drew
 ·obtain⟨m,hm⟩:∃ m,f.stack.length=m+1:=⟨f.stack.length-1,by omega⟩
  have hw:IntKind.i64.wrap ((f.stack.length:Int)-1)=(m:Int):=by rw[hm,xal (by omega) (by omega)];omega
  have hm0:¬ ((m:Int)<0):=by omega
  have hm1:m<=cap:=by omega
  have hm2:(m:Int)<=(cap:Int):=by omega
  have HM:Hid (f.stack.length-1=m):=by show _=_;omega
  have HM2:Hid (m<=f.stack.length):=by show _<=_;omega
  clear hm h0;generalize hL:f.stack.length=L at hw d0
  go_region
  go_wp2;refine bodyPost_ret (v:=VV v) ?_ rfl ⟨by rw[HT.out],⟨.slice a m cap,?_⟩,?_⟩
  ·simp[results,Tryz.results257,go_sem,u0,u1,n2,n3]
  ·rw[HL.out,HM.out];refine HF.out.cut (m:=m) ?_ ?_ HM2.out
   ·exact (((((Kp.of_below HBV.out).set (fun _=>HF.out.tag) _ _).set (fun h=>absurd h (Nat.lt_irrefl _)) _ _).set (fun h=>absurd h (Nat.lt_irrefl _)) _ _)).drew
   ·rw[xgv,xac hzz,xac hzz]
    exact xgk H3.out.box _ _
  ·exact (((((Kp.of_below HBV.out).set (fun _=>HF.out.tag) _ _).set (fun h=>absurd h (Nat.lt_irrefl _)) _ _).set (fun h=>absurd h (Nat.lt_irrefl _)) _ _)).drew
theorem FrAt.pushed {T:Nat->Nat}{K:Nat}{w U w':World}{fb:Nat}{f:Fr}{cv av tv sv sv' kv:Value}{v:QV}(h:FrAt T K w fb f cv av tv sv kv)(hU:Below w.heap.size w U)(hn:f.stack.length<1000000000)
  (r1:ownsAt w' 0 41 2 sv' (f.stack.length+1) (xaA f.stack++[.int .i64 v.k,.int .i64 v.n])) (r2:sv'.ownBlock=sv.ownBlock\/∃ g,sv'.ownBlock=some g/\U.heap.size<=g) (r3:Below 0 U w') (r4:∀ b,b<U.heap.size->some b≠sv.ownBlock->w'.heap[b]?=U.heap[b]?) (hx:w'.heap[fb]?=some (FB f cv av tv sv kv)) :
  (∃ T',Ext T T' w/\FrAt T' K (w'.setCell ⟨fb,10,none⟩ sv') fb (f.push v) cv av tv sv' kv)/\Kp (fun t=>t=K\/t=K+2) T w (w'.setCell ⟨fb,10,none⟩ sv'):=by
 have hlt:=xam h.box;have hp:=h.pos
 have kU:Kp (fun t=>t=K\/t=K+2) T w w':=⟨r3.os.trans hU.os,r3.tape.trans hU.tape,r3.output.trans hU.output,qzD hU.size r3.size,fun b hb hs=>by
  rw[r4 b (qzE hb hU.size) (fun e=>hs (Or.inr (h.stag b e.symm))),hU.block b hb]⟩
 have k:=kU.set (b:=fb) (fun _=>Or.inl h.tag) 10 sv'
 obtain⟨T',hT,hg⟩:∃ T',Ext T T' w/\∀ g,sv'.ownBlock=some g->T' g=K+2:=by
  rcases r2 with e | ⟨g,e,hg⟩
  ·exact⟨T,.refl _ _,fun g hg=>h.stag g (by rw[← e];exact hg)⟩
  ·exact⟨xla T g (K+2),xgj (qzD hU.size hg),fun g' h'=>by rw[e] at h';cases h';exact xfg _ _ _⟩
 refine⟨⟨T',hT,?_⟩,k⟩;obtain⟨tb,d1,d2,d3,d4⟩:=h.temps;refine⟨xgk hx (f.stack++[v]) sv',by rw[hT _ hlt];exact h.tag,h.args.fx xa7 hT k (by omega),⟨tb,d1,k.held d2 (by rw[d3];omega),by rw[hT _ (xam d2)];exact d3,d4⟩,?_,hg,?_,h.code.fx xaU hT k (by omega),h.meth.fx xaU hT k (by omega),hp⟩
 ·have r1':ownsAt w' 0 41 2 sv' (f.push v).stack.length (xaA (f.push v).stack):=by
   show ownsAt w' 0 41 2 sv' (f.stack++[v]).length (xaA (f.stack++[v]))
   rw[xdu,List.length_append]
   exact r1
  exact r1'.keep fun g hg'=>xac (fun e=>by have:=hg g hg';rw[e,hT _ hlt,h.tag] at this;omega) _
 ·show (f.stack++[v]).length<=_
  simp;omega
theorem xe8 {T:Nat->Nat}{K:Nat}{w:World}{fb:Nat}{f:Fr}{cv av tv sv kv:Value}(h:FrAt T K w fb f cv av tv sv kv)(v:QV)(hroom:f.stack.length<1000000000):Calls Tryz.prog 272 #[.pointer (some ⟨fb,0,none⟩),VV v] w fun e w'=>e=.returned (.tuple #[])/\(∃ T' sv',Ext T T' w/\FrAt T' K w' fb (f.push v) cv av tv sv' kv)/\Kp (fun t=>t=K\/t=K+2) T w w':=by
 have hlt:=xam h.box;have h1:=h.later (xai w (.cells #[.int .i64 v.k,.int .i64 v.n] 41));have b0:(w.alloc (.cells #[.int .i64 v.k,.int .i64 v.n] 41)).cell? ⟨w.heap.size,0,none⟩=some (.int .i64 v.k):=xab _ _ _ _ rfl 0;have b1:(w.alloc (.cells #[.int .i64 v.k,.int .i64 v.n] 41)).cell? ⟨w.heap.size,1,none⟩=some (.int .i64 v.n):=xab _ _ _ _ rfl 1;have HBV:Hid (Below w.heap.size w (w.alloc (.cells #[.int .i64 v.k,.int .i64 v.n] 41))):=xai _ _;go_enter Tryz.func272,Tryz.ntmps272
 go_upto_region 1 with (fail)
 generalize (w.alloc (.cells #[.int .i64 v.k,.int .i64 v.n] 41))=V at *;have c0:V.cell? ⟨fb,10,none⟩=some sv:=by rw[qzB h1.box];rfl
 have cf:=xaq h1.box;have hl1:fb<V.heap.size:=xam h1.box;have hl2:¬ fb=V.heap.size:=by omega
 have hst:ownsAt (V.alloc (.cells #[.int .i64 v.k,.int .i64 v.n] 41)).drew 0 41 2 sv f.stack.length (xaA f.stack):=(h1.stack.alloc _).keep fun g hg=>rfl
 obtain⟨v',w',hrun,r1,r2,r3,r4⟩:=xcQ (w:=(V.alloc (.cells #[.int .i64 v.k,.int .i64 v.n] 41)).drew) 52 52 41 _ 2 16 Tryz.underlying52 xok rfl (by omega) 0 f.stack.length sv (xaA f.stack) hst V.heap.size [.int .i64 v.k,.int .i64 v.n] rfl (heap_alloc_new V _) (by simp;exact⟨rfl,rfl⟩) (by unfold maxLen;omega) (by omega) (by omega)
 obtain⟨a,cap,rfl,hc1,hc2⟩:=h1.stack.form;obtain⟨a',cap',rfl,-⟩:=r1.form;have R1:Hid (ownsAt w' 0 41 2 (.slice a' (f.stack.length+1) cap') (f.stack.length+1) (xaA f.stack++[.int .i64 v.k,.int .i64 v.n])):=r1;have R2:=hid r2;have R4:=hid r4;have HB3:Hid (Below 0 _ w'):=r3;have hnb:some fb≠(Value.slice a f.stack.length cap).ownBlock:=fun e=>by have:=h1.stag fb e.symm;rw[h1.tag] at this;omega
 have hbx:w'.heap[fb]?=some (FB f cv av tv (.slice a f.stack.length cap) kv):=by
  rw[r4 fb (by simp;omega) hnb];exact xaa h1.box (xai _ _).drew
 have d0:w'.cell? ⟨fb,10,none⟩=some (.slice a f.stack.length cap):=by rw[qzB hbx];rfl
 have df:=xaq hbx;have HX:=hid hbx;have H0:=hid h;have HBU:Hid (Below w.heap.size w (V.alloc (.cells #[.int .i64 v.k,.int .i64 v.n] 41)).drew):=xaf HBV.out (xai _ _).drew;clear r1 r2 r3 r4 hst h1 hbx hnb h
 go_region_law (refine xhu rfl (.tmp 8) (.tmp 10) 52 rfl (.slice a f.stack.length cap) (.slice (some ⟨V.heap.size,0,none⟩) 1 1) (.slice a' (f.stack.length+1) cap') (by simp[Act.eval,Act.put]) (by simp[Act.eval,Act.put]) hrun ?_)
 all_goals (
  go_wp2;obtain⟨⟨T',e1,e2⟩,e3⟩:=H0.out.pushed (v:=v) HBU.out hroom R1.out R2.out HB3.out R4.out HX.out
  exact bodyPost_end (v:=.tuple #[]) (by simp[results,Tryz.results272,go_sem]) rfl ⟨rfl,⟨T',_,e1,e2⟩,e3⟩)
theorem xhj {P:Program}(w:World)(t ty e:TypeId)(i:TypeInfo)(ht:P.underlying t=some (.slice e))(hi:P.info? e=some i)(B:Nat)(ad:Option Addr)(cap:Nat) :
  (Builtin.append_ #[t,t] ty #[.slice (some ⟨B,0,none⟩) 0 0,.slice ad 0 cap]).run P w=.ok (.slice (some ⟨B,0,none⟩) 0 0) w:=by
 have hl:∀ (x:Addr),(loadCells x 0).run P w=.ok #[] w:=fun x=>by simpa using run_loadCells_list (P:=P) w x [] (by simp)
 cases ad<;>simp[Builtin.append_,run_underlying ht,sizeOf,typeInfo,hi,Builtin.lenOf,Builtin.firstCells,storeCells,hl]
theorem xfA {ops:Array Oper}{rest:List Oper}{o:Oper}{a:Act}{w:World}{Q:Exit->Act->World->Prop}(hgd:o.guard=none)(s x:Operand)(T e:TypeId)(z:Value)(sz bytes:Nat)
  (hop:o.op=Op.call { callee:=Callee.builtin Builtin.append,args:=#[s,x],argTypes:=#[T,T] }) (hT:Tryz.prog.underlying T=some (.slice e)) (hI:(Tryz.prog.info? e).map (fun i=>(i.zero,i.size,i.bytes))=some (some z,sz,bytes)) (hzs:z.cells.size=sz) (hsz:0<sz) (hbz:0<bytes)
  (B:Nat) (hs:a.eval s=.slice (some ⟨B,0,none⟩) 0 0) (hB:w.heap[B]?=some (.cells #[] e (0,0)))
  (ad:Option Addr) (n cap:Nat) (hx:a.eval x=.slice ad n cap) (cs:List Value) (hlen:cs.length=n*sz) (hsrc:∀ j u,cs[j]?=some u->∃ b,ad=some b/\w.cell? (b.add j)=some u) (hn:n*bytes<=140737488351232)
  (hK:∀ g cap' w',w'.ownsRow B e sz (.slice (some ⟨g,0,none⟩) n cap') n cs->(g=B\/w.heap.size<=g)->g<w'.heap.size->Below w.heap.size w w'->wpList Tryz.prog ops Q rest (a.put o.dst (.slice (some ⟨g,0,none⟩) n cap')) w') :
  wpList Tryz.prog ops Q (o :: rest) a w:=by
 refine wpList_plain hgd fun K hKK=>?_
 obtain⟨i0,hi,hz0,hz1,hz2⟩:=xbu hI;have hBl:=xam hB
 by_cases h0:n=0
 ·subst h0;have hcs:cs=[]:=List.eq_nil_of_length_eq_zero (by simpa using hlen)
  have hrun:=xhj (P:=Tryz.prog) w T o.type e i0 hT hi B ad cap;unfold Oper.wp
  simp[execOp,hop,resolve,invoke,builtin,hs,hx,hrun,Result.andThen]
  refine hKK _ _ (hK B 0 w ?_ (Or.inl rfl) hBl (Below.refl _ _));rw[hcs]
  exact⟨by simp,.inr ⟨B,0,#[],rfl,qzC _,hB,qzC _,by unfold maxLen;omega,by simp,by simp⟩⟩
 ·obtain⟨b,rfl⟩:∃ b,ad=some b:=by
   have:0<cs.length:=by rw[hlen];exact Nat.mul_pos (by omega) hsz
   obtain⟨b,e,-⟩:=hsrc 0 cs[0] (by simp[this])
   exact⟨b,e⟩
  have hnb:n<=140737488351232:=qzD (Nat.le_mul_of_pos_right n hbz) hn;obtain⟨v',w',hrun,r1,r2⟩:=run_append_arg_grows (P:=Tryz.prog) w T o.type e i0 _ sz bytes hT hi hz0 hz1 hz2 hzs hsz ⟨B,0,none⟩ 0 0 [] (by simp) (fun j u hu=>by simp at hu) b n cap cs hlen (fun j u hu=>by obtain⟨b',e,h⟩:=hsrc j u hu;cases e;exact h) (by omega) (by unfold maxLen;omega) (by rw[Nat.zero_add];omega)
  simp only[Nat.zero_add,List.nil_append] at r1;obtain⟨g,cap',rfl,hg,hgl⟩:=r1.form (by omega)
  unfold Oper.wp
  simp[execOp,hop,resolve,invoke,builtin,hs,hx,hrun,Result.andThen]
  refine hKK _ _ (hK g cap' w' ?_ (Or.inr hg) hgl ((Below.refl _ _).grown r2 (qzC _) (fun k hk=>by cases hk)))
  obtain⟨q1,q2⟩:=r1;refine⟨q1,?_⟩
  rcases q2 with q2 | ⟨g',c',cur,e,h1,h2⟩
  ·exact .inl q2
  ·exact .inr ⟨g',c',cur,e,by omega,h2⟩
theorem xqv (a:Option Addr)(n c:Nat)(w:World):(binOp .eql 52 (.slice a n c) (.slice none 0 0)).run Tryz.prog w=.ok (.bool (a == none)) w:=by
 have u:=Tryz.underlying52
 cases a<;>go_simp<;>rfl
theorem xdm {P:Nat->Prop}(xs:List QV)(v:Value)(w:World)(h:xaV P w v xs):Calls Tryz.prog 284 #[v] w fun e w'=>∃ a c,e=.returned (.slice a xs.length c)/\xaV (fun b=>w.heap.size<=b/\b<w'.heap.size) w' (.slice a xs.length c) xs/\Below w.heap.size w w':=by
 obtain⟨ad,cap,rfl,hl,hcap,hby,hrow⟩:=h
 cases ad with
 | none=>
  have hx:xs=[]:=by
   cases xs with
   | nil=>rfl
   | cons x r=>obtain⟨b,o,e,-⟩:=hrow 0 x rfl;cases e
  subst hx;have hq:=xqv none 0 cap;go_enter Tryz.func284,Tryz.ntmps284;go_wp2
  go_ret
  exact⟨none,0,rfl,⟨none,0,rfl,by simp,by simp,by simp,fun i x hx=>by simp at hx⟩,Below.refl _ _⟩
 | some ad=>
  obtain⟨cs,hcs,hsrc⟩:=hrow.cells xa7;have hvc:=xff (E:=()) hcs;have hlen:=hcs.1;clear hrow;have hq:=xqv (some ad) xs.length cap;go_enter Tryz.func284,Tryz.ntmps284
  go_wp2_with (at_builtin;refine xfA rfl (.tmp 5) (.tmp 6) 52 41 _ 2 16 rfl Tryz.underlying52 xok rfl (by omega) (by omega) w.heap.size rfl (by first | exact heap_alloc_new _ _ | (simp;done)) (some ad) xs.length cap rfl cs hlen (fun j u hj=>by obtain⟨b,e,h⟩:=hsrc j u hj;exact⟨b,e,qzA (xai _ _) h⟩) hby ?_;intro g cap' w' hown hg hgl hb)
  go_ret
  have hbw:Below w.heap.size w w':=xbo (Below.refl _ _) hb;refine⟨some ⟨g,0,none⟩,cap',rfl,?_,hbw⟩;obtain⟨q1,q2 | ⟨g',c',cur,e,h1,h2,h3,h4,h5,h6⟩⟩:=hown
  ·cases q2.1
  ·cases e
   have hg2:w.heap.size<=g:=by rcases hg with h | h<;>simp at*<;> omega
   exact Cells.row (E:=xsv) (sz:=2) (cs:=cs) ⟨hlen,fun i x hx=>hcs.2 i x hx⟩ xa7 ⟨hg2,hgl⟩ h2 h6 h3 h4 hby
theorem ownsAt.tail {w:World}{g o cap:Nat}{xs:List QV}(h:ownsAt w 0 41 2 (.slice (some ⟨g,o,none⟩) xs.length cap) xs.length (xaA xs)){k:Nat}(hk:k<=xs.length)(hb:xs.length<=1000000000):xaV (fun b=>b=g) w (.slice (some ⟨g,o+k*2,none⟩) (xs.drop k).length (cap-k)) (xs.drop k):=by
 have hv:=h.vals (by omega)
 obtain⟨a',c',e,h1,h2,h3,hr⟩:=hv
 cases e
 have hl:(xs.drop k).length=xs.length-k:=by simp
 refine⟨_,_,rfl,by omega,by unfold maxLen at *;omega,by omega,fun i x hx=>⟨g,o+k*2,rfl,rfl,?_⟩⟩
 rw[List.getElem?_drop] at hx;obtain⟨b,o',e,-,h0,h1⟩:=hr _ x hx
 cases e
 exact⟨by show w.cell? ⟨_,_,_⟩=_;rw[show o+k*2+i*2+0=o+(k+i)*2+0 by omega];exact h0,by show w.cell? ⟨_,_,_⟩=_;rw[show o+k*2+i*2+1=o+(k+i)*2+1 by omega];exact h1⟩
theorem xcu {T:Nat->Nat}{K:Nat}{w w1:World}{fb:Nat}{f:Fr}{cv av tv kv:Value}{a:Option Addr}{cap k:Nat}(h:FrAt T K w fb f cv av tv (.slice a f.stack.length cap) kv)(hk:k<=f.stack.length){av':Value}(hb:Below w.heap.size w w1)(hv:xaV (fun b=>w.heap.size<=b/\b<w1.heap.size) w1 av' (f.stack.drop k)) :
  ∃ T',Ext T T' w/\FrAt T' K (w1.setCell ⟨fb,10,none⟩ (.slice a k cap)) fb { f with stack:=f.stack.take k } cv av tv (.slice a k cap) kv/\xaV (Fx T' (w1.setCell ⟨fb,10,none⟩ (.slice a k cap))) (w1.setCell ⟨fb,10,none⟩ (.slice a k cap)) av' (f.stack.drop k)/\Kp (fun t=>t=K) T w (w1.setCell ⟨fb,10,none⟩ (.slice a k cap)):=by
 have hlt:=xam h.box;have e:=xaQ T w 0;have kk:Kp (fun t=>t=K) T w (w1.setCell ⟨fb,10,none⟩ (.slice a k cap)):=(Kp.of_below hb).set (fun _=>h.tag) _ _
 have h':FrAt (xbc T w 0) K w fb f cv av tv (.slice a f.stack.length cap) kv:=h.keep (S:=fun _=>False) e (Kp.refl _ _ _) id id id id
 refine⟨xbc T w 0,e,h'.cut (m:=k) (kk.tags e) (xgk (xaa h.box hb) _ _) hk,?_,kk⟩;refine hv.keep xa7 (Keeps.of_setCell (fun hp=>?_) _) fun b hb'=>⟨by rw[xaX];exact hb'.2,xba hb'.1⟩
 have:=hp.1;simp only at this
 omega
theorem xkl {T:Nat->Nat}{K:Nat}{w:World}{fb:Nat}{f:Fr}{cv av tv sv kv:Value}(h:FrAt T K w fb f cv av tv sv kv)(n:Int)(k:Nat)(hk:k=xbI f.stack n):Calls Tryz.prog 281 #[.pointer (some ⟨fb,0,none⟩),.int .i64 n] w fun e w'=>∃ a c T' sv',e=.returned (.slice a (f.stack.drop k).length c)/\Ext T T' w/\FrAt T' K w' fb { f with stack:=f.stack.take k } cv av tv sv' kv/\xaV (Fx T' w') w' (.slice a (f.stack.drop k).length c) (f.stack.drop k)/\Kp (fun t=>t=K) T w w':=by
 have hlt:=xam h.box;have c0:w.cell? ⟨fb,10,none⟩=some sv:=by rw[qzB h.box];rfl
 have hfew:=h.few;have hkl:k<=f.stack.length:=by rw[hk];unfold xbI;omega
 have HL:=hid hkl;obtain⟨a,cap,rfl,hc1,hc2⟩:=h.stack.form;unfold maxLen at hc2;have hk2:k<=cap:=by omega
 have hk3:(k:Int)<=(cap:Int):=by omega
 have hk4:(k:Int)<=(f.stack.length:Int):=by omega
 have H0:=hid h;have HS:=hid h.stack;have HX:=hid h.box;clear h
 by_cases hn:n<0
 ·have hn':decide (n<0)=true:=by simpa using hn
  have hkL0:k=f.stack.length:=by rw[hk];unfold xbI;omega
  have hkw:IntKind.i64.wrap ((f.stack.length:Int)-0)=(k:Int):=by rw[xal (by omega) (by omega)];omega
  have hkw2:IntKind.i64.wrap (f.stack.length:Int)=(k:Int):=by rw[xal (by omega) (by omega)];omega
  by_cases hck:cap=k
  ·have hkL:f.stack.length=k:=by omega
   have HV:Hid (xaV (fun _=>False) w.drew (.slice a (f.stack.drop k).length 0) (f.stack.drop k)):=by
    have e0:f.stack.drop k=[]:=List.drop_eq_nil_of_le (by omega)
    rw[e0]
    exact⟨a,0,rfl,by simp,by simp,by simp,fun i x hx=>by simp at hx⟩
   have HDL:Hid ((f.stack.drop k).length=f.stack.length-k):=by show _=_;simp
   rw[HDL.out] at HV;have hck0:cap-k=0:=by omega
   clear hck hkL;clear hk hkL0;go_enter Tryz.func281,Tryz.ntmps281;go_wp2
   go_region
   go_wp2_with fail;refine (xdm (f.stack.drop k) _ _ HV.out).mono ?_;rintro e w1 ⟨a1,c1,rfl,hv1,hb1⟩;have hbw:Below w.heap.size w w1:=((Below.refl w.heap.size w).drew).trans hb1;have hbx:=xaa HX.out hbw;have d0:w1.cell? ⟨fb,10,none⟩=some _:=(by rw[qzB hbx];rfl)
   have df:=xaq hbx;have HV1:Hid (xaV (fun b=>w.heap.size<=b/\b<w1.heap.size) w1 _ (f.stack.drop k)):=hv1
   have HBW:=hid hbw;clear hv1 hb1 hbw hbx;go_wp2;obtain⟨T',q1,q2,q3,q4⟩:=xcu H0.out HL.out HBW.out HV1.out
   go_ret
   exact⟨a1,c1,T',_,(by rw[HDL.out];rfl),q1,q2,q3,q4⟩
  ·obtain⟨g,o,rfl⟩:∃ g o,a=some ⟨g,o,none⟩:=by
    obtain⟨-,⟨e,-⟩ | ⟨g,o,c,cur,e,-⟩⟩:=HS.out
    ·simp only[Value.slice.injEq] at e;omega
    ·cases e;exact⟨g,o,rfl⟩
   have HV:Hid (xaV (fun b=>b=g) w.drew (.slice (some ⟨g,o+k*2,none⟩) (f.stack.drop k).length (cap-k)) (f.stack.drop k)):=(ownsAt.tail HS.out HL.out hfew).later xa7 (Below.refl _ _).drew
   have HDL:Hid ((f.stack.drop k).length=f.stack.length-k):=by show _=_;simp
   rw[HDL.out] at HV;have hck0:¬ (cap-k=0):=by omega
   clear hck;clear hk hkL0;go_enter Tryz.func281,Tryz.ntmps281;go_wp2
   go_region
   go_wp2_with fail;refine (xdm (f.stack.drop k) _ _ HV.out).mono ?_;rintro e w1 ⟨a1,c1,rfl,hv1,hb1⟩;have hbw:Below w.heap.size w w1:=((Below.refl w.heap.size w).drew).trans hb1;have hbx:=xaa HX.out hbw;have d0:w1.cell? ⟨fb,10,none⟩=some _:=(by rw[qzB hbx];rfl)
   have df:=xaq hbx;have HV1:Hid (xaV (fun b=>w.heap.size<=b/\b<w1.heap.size) w1 _ (f.stack.drop k)):=hv1
   have HBW:=hid hbw;clear hv1 hb1 hbw hbx;go_wp2;obtain⟨T',q1,q2,q3,q4⟩:=xcu H0.out HL.out HBW.out HV1.out
   go_ret
   exact⟨a1,c1,T',_,(by rw[HDL.out];rfl),q1,q2,q3,q4⟩
 ·obtain⟨m,rfl⟩:∃ m:Nat,n=(m:Int):=⟨n.toNat,by omega⟩
  by_cases hm:f.stack.length<m
  ·have hkw:IntKind.i64.wrap ((f.stack.length:Int)-(f.stack.length:Int))=(k:Int):=by rw[hk];unfold xbI;rw[xal (by omega) (by omega)];omega
   have hm2:(f.stack.length:Int)<(m:Int):=by omega
   have hkw2:(0:Int)=(k:Int):=by rw[hk];unfold xbI;omega
   by_cases hck:cap=k
   ·have hkL:f.stack.length=k:=by omega
    have HV:Hid (xaV (fun _=>False) w.drew (.slice a (f.stack.drop k).length 0) (f.stack.drop k)):=by
     have e0:f.stack.drop k=[]:=List.drop_eq_nil_of_le (by omega)
     rw[e0]
     exact⟨a,0,rfl,by simp,by simp,by simp,fun i x hx=>by simp at hx⟩
    have HDL:Hid ((f.stack.drop k).length=f.stack.length-k):=by show _=_;simp
    rw[HDL.out] at HV;have hck0:cap-k=0:=by omega
    clear hck hkL;clear hk;go_enter Tryz.func281,Tryz.ntmps281;go_wp2
    go_region
    go_wp2_with fail;refine (xdm (f.stack.drop k) _ _ HV.out).mono ?_;rintro e w1 ⟨a1,c1,rfl,hv1,hb1⟩;have hbw:Below w.heap.size w w1:=((Below.refl w.heap.size w).drew).trans hb1;have hbx:=xaa HX.out hbw;have d0:w1.cell? ⟨fb,10,none⟩=some _:=(by rw[qzB hbx];rfl)
    have df:=xaq hbx;have HV1:Hid (xaV (fun b=>w.heap.size<=b/\b<w1.heap.size) w1 _ (f.stack.drop k)):=hv1
    have HBW:=hid hbw;clear hv1 hb1 hbw hbx;go_wp2;obtain⟨T',q1,q2,q3,q4⟩:=xcu H0.out HL.out HBW.out HV1.out
    go_ret
    exact⟨a1,c1,T',_,(by rw[HDL.out];rfl),q1,q2,q3,q4⟩
   ·obtain⟨g,o,rfl⟩:∃ g o,a=some ⟨g,o,none⟩:=by
     obtain⟨-,⟨e,-⟩ | ⟨g,o,c,cur,e,-⟩⟩:=HS.out
     ·simp only[Value.slice.injEq] at e;omega
     ·cases e;exact⟨g,o,rfl⟩
    have HV:Hid (xaV (fun b=>b=g) w.drew (.slice (some ⟨g,o+k*2,none⟩) (f.stack.drop k).length (cap-k)) (f.stack.drop k)):=(ownsAt.tail HS.out HL.out hfew).later xa7 (Below.refl _ _).drew
    have HDL:Hid ((f.stack.drop k).length=f.stack.length-k):=by show _=_;simp
    rw[HDL.out] at HV;have hck0:¬ (cap-k=0):=by omega
    clear hck;clear hk;go_enter Tryz.func281,Tryz.ntmps281;go_wp2
    go_region
    go_wp2_with fail;refine (xdm (f.stack.drop k) _ _ HV.out).mono ?_;rintro e w1 ⟨a1,c1,rfl,hv1,hb1⟩;have hbw:Below w.heap.size w w1:=((Below.refl w.heap.size w).drew).trans hb1;have hbx:=xaa HX.out hbw;have d0:w1.cell? ⟨fb,10,none⟩=some _:=(by rw[qzB hbx];rfl)
    have df:=xaq hbx;have HV1:Hid (xaV (fun b=>w.heap.size<=b/\b<w1.heap.size) w1 _ (f.stack.drop k)):=hv1
    have HBW:=hid hbw;clear hv1 hb1 hbw hbx;go_wp2;obtain⟨T',q1,q2,q3,q4⟩:=xcu H0.out HL.out HBW.out HV1.out
    go_ret
    exact⟨a1,c1,T',_,(by rw[HDL.out];rfl),q1,q2,q3,q4⟩
  ·have hkw:IntKind.i64.wrap ((f.stack.length:Int)-(m:Int))=(k:Int):=by rw[hk];unfold xbI;rw[xal (by omega) (by omega)];omega
   have hm2:¬ ((f.stack.length:Int)<(m:Int)):=by omega
   by_cases hck:cap=k
   ·have hkL:f.stack.length=k:=by omega
    have HV:Hid (xaV (fun _=>False) w.drew (.slice a (f.stack.drop k).length 0) (f.stack.drop k)):=by
     have e0:f.stack.drop k=[]:=List.drop_eq_nil_of_le (by omega)
     rw[e0]
     exact⟨a,0,rfl,by simp,by simp,by simp,fun i x hx=>by simp at hx⟩
    have HDL:Hid ((f.stack.drop k).length=f.stack.length-k):=by show _=_;simp
    rw[HDL.out] at HV;have hck0:cap-k=0:=by omega
    clear hck hkL;clear hk;go_enter Tryz.func281,Tryz.ntmps281;go_wp2
    go_region
    go_wp2_with fail;refine (xdm (f.stack.drop k) _ _ HV.out).mono ?_;rintro e w1 ⟨a1,c1,rfl,hv1,hb1⟩;have hbw:Below w.heap.size w w1:=((Below.refl w.heap.size w).drew).trans hb1;have hbx:=xaa HX.out hbw;have d0:w1.cell? ⟨fb,10,none⟩=some _:=(by rw[qzB hbx];rfl)
    have df:=xaq hbx;have HV1:Hid (xaV (fun b=>w.heap.size<=b/\b<w1.heap.size) w1 _ (f.stack.drop k)):=hv1
    have HBW:=hid hbw;clear hv1 hb1 hbw hbx;go_wp2;obtain⟨T',q1,q2,q3,q4⟩:=xcu H0.out HL.out HBW.out HV1.out
    go_ret
    exact⟨a1,c1,T',_,(by rw[HDL.out];rfl),q1,q2,q3,q4⟩
   ·obtain⟨g,o,rfl⟩:∃ g o,a=some ⟨g,o,none⟩:=by
     obtain⟨-,⟨e,-⟩ | ⟨g,o,c,cur,e,-⟩⟩:=HS.out
     ·simp only[Value.slice.injEq] at e;omega
     ·cases e;exact⟨g,o,rfl⟩
    have HV:Hid (xaV (fun b=>b=g) w.drew (.slice (some ⟨g,o+k*2,none⟩) (f.stack.drop k).length (cap-k)) (f.stack.drop k)):=(ownsAt.tail HS.out HL.out hfew).later xa7 (Below.refl _ _).drew
    have HDL:Hid ((f.stack.drop k).length=f.stack.length-k):=by show _=_;simp
    rw[HDL.out] at HV;have hck0:¬ (cap-k=0):=by omega
    clear hck;clear hk;go_enter Tryz.func281,Tryz.ntmps281;go_wp2
    go_region
    go_wp2_with fail;refine (xdm (f.stack.drop k) _ _ HV.out).mono ?_;rintro e w1 ⟨a1,c1,rfl,hv1,hb1⟩;have hbw:Below w.heap.size w w1:=((Below.refl w.heap.size w).drew).trans hb1;have hbx:=xaa HX.out hbw;have d0:w1.cell? ⟨fb,10,none⟩=some _:=(by rw[qzB hbx];rfl)
    have df:=xaq hbx;have HV1:Hid (xaV (fun b=>w.heap.size<=b/\b<w1.heap.size) w1 _ (f.stack.drop k)):=hv1
    have HBW:=hid hbw;clear hv1 hb1 hbw hbx;go_wp2;obtain⟨T',q1,q2,q3,q4⟩:=xcu H0.out HL.out HBW.out HV1.out
    go_ret
    exact⟨a1,c1,T',_,(by rw[HDL.out];rfl),q1,q2,q3,q4⟩
theorem xf6 {h h':Int}{v:QV}(hv:xaM h v=0)(hh:h<=h'):xaM h' v=0:=by
 unfold xaM xdp at hv ⊢
 split at hv
 ·cases hv
 ·split at hv
  ·rename_i a b;rw[if_neg a,if_pos b];exact hv
  ·split at hv
   ·rename_i a b c;rw[if_neg a,if_neg b,if_pos c];exact hv
   ·rename_i a b c;rw[if_neg a,if_neg b,if_neg c]
    split at hv
    ·cases hv
    ·rename_i d;rw[if_neg (by omega)]
theorem xaZ (h:Int):xaM h xa4=0:=by simp[xaM,xdp]
def VsOk (h:Int)(l:List QV):Prop:=∀ v∈l,xaM h v=0
theorem VsOk.later {h h':Int}{l:List QV}(hl:VsOk h l)(hh:h<=h'):VsOk h' l:=fun v hv=>xf6 (hl v hv) hh
theorem VsOk.entry {h:Int}{l:List QV}(hl:VsOk h l)(n:Int):xaM h (xaK l n)=0:=by
 unfold xaK
 split
 ·exact xaZ h
 ·cases hq:l[n.toNat]? with
  | none=>exact xaZ h
  | some v=>exact hl v (List.mem_of_getElem? hq)
theorem VsOk.setEntry {h:Int}{l:List QV}(hl:VsOk h l)(n:Int){x:QV}(hx:xaM h x=0):VsOk h (xaP l n x):=by
 unfold xaP
 split
 ·exact hl
 ·intro v hv
  rcases List.mem_or_eq_of_mem_set hv with h1 | rfl
  ·exact hl v h1
  ·exact hx
theorem xbN (l:List QV)(n:Int)(x:QV):(xaP l n x).length=l.length:=by unfold xaP;split<;>simp
theorem VsOk.append {h:Int}{l:List QV}(hl:VsOk h l){x:QV}(hx:xaM h x=0):VsOk h (l++[x]):=fun v hv=>by
 simp at hv
 rcases hv with h1 | rfl
 ·exact hl v h1
 ·exact hx
theorem VsOk.sub {h:Int}{l k:List QV}(hl:VsOk h l)(hk:∀ v∈k,v∈l):VsOk h k:=fun v hv=>hl v (hk v hv)
theorem xgd (h n:Int):VsOk h (xaC n):=fun v hv=>by
 unfold xaC at hv;rw[(List.mem_replicate.1 hv).2]
 exact xaZ h
structure HOk (cs:List QC)(h:List QO):Prop where
 len:h.length<=60
 obj:∀ o∈h,xbx cs.length o.cls=true/\(o.slots.length:Int)=xaS cs o.cls/\VsOk h.length o.slots
theorem xhV {h:List QO}{v:QV}{o:QO}(e:xgD h v=some o):h[v.n.toNat]?=some o:=by
 unfold xgD at e
 split at e
 ·exact e
 ·cases e
theorem HOk.slot {cs:List QC}{h:List QO}(hh:HOk cs h)(v:QV)(n:Int):xaM h.length (xep h v n)=0:=by
 unfold xep
 cases e:xgD h v with
 | none=>exact xaZ _
 | some o=>exact (hh.obj o (List.mem_of_getElem? (xhV e))).2.2.entry n
theorem xcy (h:List QO)(v:QV)(n:Int)(x:QV):(xbr h v n x).length=h.length:=by unfold xbr;split<;>simp
theorem HOk.setSlot {cs:List QC}{h:List QO}(hh:HOk cs h)(v:QV)(n:Int){x:QV}(hx:xaM h.length x=0):HOk cs (xbr h v n x):=by
 refine⟨by rw[xcy];exact hh.len,fun o ho=>?_⟩
 rw[xcy];unfold xbr at ho
 split at ho
 ·exact hh.obj o ho
 ·rename_i p e
  rcases List.mem_or_eq_of_mem_set ho with h1 | rfl
  ·exact hh.obj o h1
  ·obtain⟨a,b,c⟩:=hh.obj p (List.mem_of_getElem? (xhV e))
   exact⟨a,by simp only[xbN];exact b,c.setEntry n hx⟩
theorem HOk.make {cs:List QC}{h:List QO}(hh:HOk cs h){c:Int}(hc:xbx cs.length c=true){k:Nat}(hk:(k:Int)=xaS cs c)(hl:h.length<60):HOk cs (h++[⟨c,List.replicate k xa4⟩]):=by
 refine⟨by simp;omega,fun o ho=>?_⟩
 simp only[List.length_append,List.length_cons,List.length_nil,List.mem_append,List.mem_singleton] at ho ⊢
 rcases ho with h1 | rfl
 ·obtain⟨a,b,d⟩:=hh.obj o h1
  exact⟨a,b,d.later (by omega)⟩
 ·exact⟨hc,by simpa using hk,fun v hv=>by rw[(List.mem_replicate.1 hv).2];exact xaZ _⟩
def CodeOk (cs:List QC)(l:List QI):Prop:=∀ x∈l,(x.op=5->-1073741824<=x.a/\x.a<=1073741824)/\(x.op=13->xbx cs.length x.a=true)
structure FOk (cs:List QC)(h:Int)(f:Fr):Prop where
 self:xaM h f.self=0
 args:VsOk h f.args
 temps:VsOk h f.temps
 stack:VsOk h f.stack
 code:CodeOk cs f.code
 plain:CodeOk cs f.meth.code
theorem FOk.later {cs:List QC}{h h':Int}{f:Fr}(hf:FOk cs h f)(hh:h<=h'):FOk cs h' f:=⟨xf6 hf.self hh,hf.args.later hh,hf.temps.later hh,hf.stack.later hh,hf.code,hf.plain⟩
theorem FOk.push {cs:List QC}{h:Int}{f:Fr}(hf:FOk cs h f){v:QV}(hv:xaM h v=0):FOk cs h (f.push v):=⟨hf.self,hf.args,hf.temps,hf.stack.append hv,hf.code,hf.plain⟩
theorem FOk.pop {cs:List QC}{h:Int}{f:Fr}(hf:FOk cs h f):FOk cs h f.pop:=⟨hf.self,hf.args,hf.temps,hf.stack.sub fun v hv=>List.dropLast_subset _ hv,hf.code,hf.plain⟩
theorem FOk.top {cs:List QC}{h:Int}{f:Fr}(hf:FOk cs h f):xaM h f.top=0:=hf.stack.entry _
theorem FOk.leave {cs:List QC}{h:Int}{f:Fr}(hf:FOk cs h f)(c:Int):FOk cs h (f.leave c):=by
 refine⟨hf.self,hf.args,fun v hv=>?_,hf.stack,hf.plain,hf.plain⟩
 simp only[Fr.leave,List.mem_map] at hv;obtain⟨p,-,rfl⟩:=hv
 cases hq:f.temps[p.2]? with
 | none=>exact xaZ h
 | some v=>exact hf.temps v (List.mem_of_getElem? hq)
section
variable {σ:Type}
structure EOk (E:Env σ):Prop where
 meths:∀ c n m,xaz E.cz c n=some m->CodeOk E.cz m.code
 fast:∀ c n q,E.quick c n=some q->CodeOk E.cz q.1
 slots:∀ c,xaS E.cz c=xbw E.cz c/\0<=xbw E.cz c
structure ROk (cs:List QC)(m m':Mc σ):Prop where
 heap:HOk cs m'.heap
 more:m.heap.length<=m'.heap.length
def xnD (cs:List QC)(ent:Ent σ):Prop:=∀ m c n s a,HOk cs m.heap->xaM m.heap.length s=0->VsOk m.heap.length a->ROk cs m (ent m c n s a).1/\xaM (ent m c n s a).1.heap.length (ent m c n s a).2.1=0
def xgQ (cs:List QC)(m:Mc σ)(r:Mc σ × Fr × Int):Prop:=ROk cs m r.1/\(r.2.2=0->FOk cs r.1.heap.length r.2.1)
theorem xoP {cs:List QC}{m:Mc σ}{f:Fr}(hm:HOk cs m.heap)(hf:FOk cs m.heap.length f)(a b:Int):xgQ cs m (xa3 m f a b):=by
 have hf':∀ t,FOk cs m.heap.length { f with pc:=t }:=fun t=>⟨hf.self,hf.args,hf.temps,hf.stack,hf.code,hf.plain⟩
 unfold xa3 xgQ
 by_cases h:b<=a
 ·simp only[h,if_true]
  split
  ·exact⟨⟨hm,qzC _⟩,fun h=>by cases h⟩
  ·exact⟨⟨hm,qzC _⟩,fun _=>hf' b⟩
 ·simp only[h,if_false]
  split
  ·exact⟨⟨hm,qzC _⟩,fun h=>by cases h⟩
  ·exact⟨⟨hm,qzC _⟩,fun _=>hf' b⟩
theorem xre {cs:List QC}{m:Mc σ}{f:Fr}(hm:HOk cs m.heap)(hf:FOk cs m.heap.length f)(a b:Int):xgQ cs m (xbQ m f a b):=by
 unfold xbQ
 split
 ·exact⟨⟨hm,qzC _⟩,fun _=>hf.pop⟩
 ·split
  ·exact xoP hm hf.pop a b
  ·exact⟨⟨hm,qzC _⟩,fun _=>hf⟩
theorem xrD {E:Env σ}(hE:EOk E){m:Mc σ}{f:Fr}(hm:HOk E.cz m.heap)(hf:FOk E.cz m.heap.length f){c:Int}(hc:xbx E.cz.length c=true):xgQ E.cz m (xci E m f c):=by
 unfold xci
 split
 ·exact⟨⟨hm,qzC _⟩,fun _=>hf⟩
 ·rename_i h;obtain⟨h1,h2⟩:=hE.slots c;refine⟨⟨hm.make hc (by rw[h1];omega) (by omega),by simp⟩,fun _=>?_⟩
  refine (hf.later ?_).push ?_
  ·simp only[List.length_append,List.length_cons,List.length_nil];omega
  ·simp only[List.length_append,List.length_cons,List.length_nil,xaM,xdp];rw[if_neg (by omega),if_neg (by omega),if_neg (by omega),if_neg (by omega)]
theorem xlZ {cs:List QC}(E:Env σ)(d:Nat){m:Mc σ}(hm:HOk cs m.heap):ROk cs m (xar E d m).1/\(xar E d m).1.heap=m.heap:=by
 unfold xar
 split
 ·exact⟨⟨hm,qzC _⟩,rfl⟩
 ·split
  ·exact⟨⟨hm,qzC _⟩,rfl⟩
  ·exact⟨⟨hm,qzC _⟩,rfl⟩
theorem xrP {cs:List QC}(E:Env σ)(d:Nat){m:Mc σ}{f:Fr}(hm:HOk cs m.heap)(hf:FOk cs m.heap.length f)(x:QI):xgQ cs m (xb7 E d m f x):=by
 unfold xb7
 split
 ·exact⟨⟨hm,qzC _⟩,fun h=>by cases h⟩
 ·split
  ·refine⟨⟨hm,qzC _⟩,fun _=>?_⟩
   simp only[]
   split
   ·exact hf
   ·exact hf.leave x.c
  ·split
   ·exact⟨⟨hm,qzC _⟩,fun _=>hf.push (hm.slot _ _)⟩
   ·split
    ·refine⟨⟨hm.setSlot _ _ hf.top,by simp[xcy]⟩,fun _=>?_⟩
     simp only[xcy]
     exact hf.pop
    ·split
     ·obtain⟨h1,h2⟩:=xlZ (cs:=cs) E d hm;refine⟨h1,fun _=>?_⟩
      simp only[h2]
      exact hf
     ·exact⟨⟨hm,qzC _⟩,fun h=>by cases h⟩
theorem xqR {cs:List QC}{ent:Ent σ}(he:xnD cs ent)(E:Env σ){m:Mc σ}{f:Fr}(hm:HOk cs m.heap)(hf:FOk cs m.heap.length f)(at':Int)(x:QI):xgQ cs m (xbO ent E m f at' x):=by
 unfold xbO;simp only[];generalize E.look m.st (f.site at' x) (xap m.heap (xaL (f.stack.take (xbI f.stack x.a)) 0)) x.name=l;have ht:VsOk m.heap.length (f.stack.take (xbI f.stack x.a)):=hf.stack.sub fun v hv=>List.mem_of_mem_take hv
 obtain⟨h1,h2⟩:=he { m with st:=l.1 } l.2.1 l.2.2 (xaL (f.stack.take (xbI f.stack x.a)) 0) (f.stack.drop (xbI f.stack x.a)) hm (ht.entry _) (hf.stack.sub fun v hv=>List.mem_of_mem_drop hv)
 generalize ent { m with st:=l.1 } l.2.1 l.2.2 (xaL (f.stack.take (xbI f.stack x.a)) 0) (f.stack.drop (xbI f.stack x.a))=r at h1 h2 ⊢
 have hmore:m.heap.length<=r.1.heap.length:=h1.more
 split
 ·rename_i h;exact⟨⟨h1.heap,hmore⟩,fun h'=>absurd h' h⟩
 ·refine⟨⟨h1.heap,hmore⟩,fun _=>?_⟩
  have hf':=hf.later (h':=(r.1.heap.length:Int)) (by omega)
  have ht':VsOk (r.1.heap.length:Int) (f.stack.take (xbI f.stack x.a)):=ht.later (by omega)
  exact⟨hf'.self,hf'.args,hf'.temps,((ht'.sub fun v hv=>List.dropLast_subset _ hv).append h2),hf'.code,hf'.plain⟩
theorem xn0 {cs:List QC}{h:List QO}{f:Fr}(hm:HOk cs h)(hf:FOk cs h.length f){x:QI}(hx:x.op=5->-1073741824<=x.a/\x.a<=1073741824){v:QV}(e:xan h f x=some v):xaM h.length v=0:=by
 unfold xan at e
 split at e
 ·cases e;exact hf.self
 ·split at e
  ·cases e;exact hf.args.entry _
  ·split at e
   ·cases e;exact hf.temps.entry _
   ·split at e
    ·cases e;exact hm.slot _ _
    ·split at e
     ·rename_i h5
      cases e
      have:=hx h5;simp only[xaM,xdp];rw[if_neg (by omega),if_neg (by omega),if_pos trivial,if_neg (by omega)]
     ·split at e
      ·cases e;exact xaZ _
      ·split at e
       ·cases e;simp[xaM,xdp]
       ·split at e
        ·cases e;simp[xaM,xdp]
        ·cases e
theorem xol {E:Env σ}(hE:EOk E){ent:Ent σ}(he:xnD E.cz ent)(d:Nat){m:Mc σ}{f:Fr}(hm:HOk E.cz m.heap)(hf:FOk E.cz m.heap.length f)(at':Int){x:QI}(h5:x.op=5->-1073741824<=x.a/\x.a<=1073741824)(h13:x.op=13->xbx E.cz.length x.a=true):xgQ E.cz m (xaj ent E d m f at' x):=by
 unfold xaj
 split
 ·rename_i v e
  exact⟨⟨hm,qzC _⟩,fun _=>hf.push (xn0 hm hf h5 e)⟩
 ·split
  ·exact⟨⟨hm,qzC _⟩,fun _=>hf.pop⟩
  ·split
   ·exact⟨⟨hm,qzC _⟩,fun _=>hf.push hf.top⟩
   ·split
    ·exact⟨⟨hm,qzC _⟩,fun _=>⟨hf.self,hf.args,hf.temps.setEntry _ hf.top,hf.pop.stack,hf.code,hf.plain⟩⟩
    ·split
     ·refine⟨⟨hm.setSlot _ _ hf.top,by simp[xcy]⟩,fun _=>?_⟩
      simp only[xcy]
      exact hf.pop
     ·split
      ·rename_i h;exact xrD hE hm hf (h13 h)
      ·split
       ·exact xqR he E hm hf at' x
       ·split
        ·exact xoP hm hf at' x.a
        ·split
         ·exact xre hm hf at' x.a
         ·exact xrP E d hm hf x
theorem ROk.trans {cs:List QC}{a b c:Mc σ}(h:ROk cs a b)(k:ROk cs b c):ROk cs a c:=⟨k.heap,qzD h.more k.more⟩
theorem xqy {E:Env σ}(hE:EOk E){ent:Ent σ}(he:xnD E.cz ent)(d:Nat):∀ (g:Nat) {m:Mc σ} {f:Fr},HOk E.cz m.heap->FOk E.cz m.heap.length f->ROk E.cz m (xck ent E d g m f).1/\xaM (xck ent E d g m f).1.heap.length (xck ent E d g m f).2.1=0
 | 0,m,f,hm,hf=>⟨⟨hm,qzC _⟩,xaZ _⟩
 | g+1,m,f,hm,hf=>by
  unfold xck
  cases hq:(if f.pc<0 then none else f.code[f.pc.toNat]?) with
  | none=>exact⟨⟨hm,qzC _⟩,xaZ _⟩
  | some x=>
   have hx:x∈f.code:=by
    split at hq
    ·cases hq
    ·exact List.mem_of_getElem? hq
   simp only[]
   by_cases h17:x.op=17
   ·rw[if_pos h17];exact⟨⟨hm,qzC _⟩,hf.top⟩
   ·rw[if_neg h17];have hf1:FOk E.cz m.heap.length { f with pc:=f.pc+1 }:=⟨hf.self,hf.args,hf.temps,hf.stack,hf.code,hf.plain⟩
    obtain⟨h1,h2⟩:=xol hE he d hm hf1 f.pc (hf.code x hx).1 (hf.code x hx).2;generalize xaj ent E d m { f with pc:=f.pc+1 } f.pc x=r at h1 h2 ⊢
    by_cases h0:r.2.2≠0
    ·rw[if_pos h0];exact⟨h1,xaZ _⟩
    ·rw[if_neg h0];obtain⟨k1,k2⟩:=xqy hE he d g h1.heap (h2 (by simpa using h0))
     exact⟨h1.trans k1,k2⟩
theorem xmK (h:Int){a b:QV}(p:Int):xaM h (xcV p a b).1=0:=by
 have tm:∀ n:Int,-1073741824<=n.tmod 1073741825/\n.tmod 1073741825<=1073741824:=fun n=>by
  have h1:=Int.tmod_lt_of_pos n (b:=1073741825) (by omega)
  have h2:=Int.lt_tmod_of_pos n (b:=1073741825) (by omega)
  omega
 have num:∀ n:Int,xaM h ⟨3,n.tmod 1073741825⟩=0:=fun n=>by
  have:=tm n;simp only[xaM,xdp];rw[if_neg (by omega),if_neg (by omega),if_pos trivial,if_neg (by omega)]
 have bol:∀ c:Prop,∀ _:Decidable c,xaM h ⟨if c then 2 else 1,0⟩=0:=fun c _=>by
  by_cases hc:c<;>simp[hc,xaM,xdp]
 unfold xcV
 split
 ·exact xaZ h
 ·split
  ·exact num _
  ·split
   ·exact num _
   ·split
    ·exact num _
    ·split
     ·exact bol _ _
     ·split
      ·exact bol _ _
      ·exact xaZ h
theorem xlH {E:Env σ}(hE:EOk E)(d:Nat){body:Mc σ->Fr->Mc σ × QV × Int}(hb:∀ {m f},HOk E.cz m.heap->FOk E.cz m.heap.length f->ROk E.cz m (body m f).1/\xaM (body m f).1.heap.length (body m f).2.1=0):xnD E.cz (xbs E d body):=by
 intro m c n s a hm hs ha;unfold xbs
 cases hmt:xaz E.cz c n with
 | none=>exact⟨⟨hm,qzC _⟩,xaZ _⟩
 | some mt=>
  simp only[]
  split
  ·exact⟨⟨hm,qzC _⟩,xaZ _⟩
  ·split
   ·split
    ·exact⟨⟨hm,qzC _⟩,xaZ _⟩
    ·exact⟨⟨hm,qzC _⟩,xmK _ _⟩
   ·split
    ·exact⟨⟨hm,qzC _⟩,xaZ _⟩
    ·obtain⟨h1,h2⟩:=xlZ (cs:=E.cz) E d hm
     have hf:FOk E.cz (xar E d m).1.heap.length (xaT E c n mt s a):=by
      rw[h2];have hmc:=hE.meths c n mt hmt;unfold xaT
      cases hq:E.quick c n with
      | none=>exact⟨hs,ha,xgd _ _,fun v hv=>by simp at hv,hmc,hmc⟩
      | some q=>exact⟨hs,ha,xgd _ _,fun v hv=>by simp at hv,hE.fast c n q hq,hmc⟩
     obtain⟨k1,k2⟩:=hb h1.heap hf
     exact⟨h1.trans k1,k2⟩
theorem xoL {E:Env σ}(hE:EOk E):∀ d:Nat,xnD E.cz (xbh E d)
 | 0=>xlH hE 0 fun hm hf=>⟨⟨hm,qzC _⟩,xaZ _⟩
 | d+1=>xlH hE (d+1) fun hm hf=>xqy hE (xoL hE d) d _ hm hf
theorem xge {f:QI->Int}:∀ {l:List QI} {k:Nat} {p:Int × Int},xkV f k l=some p->p.1≠0
 | [],k,p,h=>by simp[xkV] at h
 | z :: r,k,p,h=>by
  unfold xkV at h
  split at h
  ·rename_i hz;cases h;exact hz
  ·exact xge h
def xbV:Int->Int->Option (List QI × Int):=fun _ _=>none
theorem xdk {X:QW}(h:xau X=0):HOk X.cz X.heap:=by
 obtain⟨hs,-,-,ho⟩:=xbX h;refine⟨hs.heap,fun o hm=>?_⟩
 obtain⟨i,hi,rfl⟩:=List.mem_iff_getElem.1 hm;have hr:=ho i _ hi (List.getElem?_eq_getElem hi);unfold roE at hr
 split at hr
 ·cases hr
 ·rename_i hn;have hn':=not_or.1 hn;refine⟨by simpa using hn'.1,by simpa using hn'.2,fun v hv=>?_⟩
  obtain⟨k,hk,rfl⟩:=List.mem_iff_getElem.1 hv
  exact xbH hr k _ (List.getElem?_eq_getElem hk)
theorem xhe {X:QW}(h:xau X=0){H:List QO}(hh:HOk X.cz H):xau ⟨X.cz,H,X.ez⟩=0:=by
 obtain⟨hs,hc,hm,-⟩:=xbX h;refine xiv ⟨hs.few,hs.many,hh.len,hs.ep0,hs.ep1⟩ hc hm fun i o hi ho=>?_
 obtain⟨h1,h2,h3⟩:=hh.obj o (List.mem_of_getElem? ho);unfold roE;rw[if_neg (by simp[h1,h2])]
 exact xcx fun k v hv=>h3 v (List.mem_of_getElem? hv)
theorem xcn {X:QW}(h:xau X=0):xcC X.cz:=fun i x hx=>by
 obtain⟨hs,hc,-,-⟩:=xbX h;have hr:=hc i x (xad hx) hx;unfold rcE at hr
 split at hr
 ·cases hr
 ·split at hr
  ·split at hr
   ·cases hr
   ·split at hr
    ·cases hr
    ·split at hr
     ·cases hr
     ·split at hr
      ·cases hr
      ·omega
  ·split at hr
   ·cases hr
   ·split at hr
    ·cases hr
    ·split at hr
     ·cases hr
     ·omega
theorem xdt {X:QW}(h:xau X=0)(c:Int):xaS X.cz c=xbw X.cz c/\0<=xbw X.cz c:=by
 have ho:=xcn h;obtain⟨hs,-,-,-⟩:=xbX h;have hm:=hs.many
 exact⟨xpF ho (by omega) c,(xfb ho (X.cz.length+1) c 0 (Int.le_refl _)).1⟩
theorem xec {X:QW}(h:xau X=0){c n:Int}{m:QM}(hm:xaz X.cz c n=some m):CodeOk X.cz m.code:=by
 obtain⟨hs,-,hk,-⟩:=xbX h;unfold xaz at hm
 cases hx:xa8 X.cz c with
 | none=>rw[hx] at hm;cases hm
 | some x=>
  rw[hx] at hm;simp only[Option.bind_some] at hm;obtain⟨k,rfl,hx'⟩:=xa5 hx
  split at hm
  ·have hr:=hk k x (xad hx') hx';unfold rkE at hr
   split at hr
   ·cases hr
   ·split at hr
    ·cases hr
    ·have hq:=xbH hr _ _ hm;unfold rmE at hq
     split at hq
     ·cases hq
     ·split at hq
      ·rename_i hp;unfold xmS at hp;rw[List.any_eq_true] at hp;obtain⟨p,-,hp⟩:=hp;simp only[Bool.and_eq_true,decide_eq_true_eq] at hp;have:m.code=[]:=List.eq_nil_of_length_eq_zero hp.2;rw[this];intro y hy
       simp at hy
      ·unfold xce at hq
       split at hq
       ·rename_i a;exact absurd hq a
       ·split at hq
        ·rename_i f e
         exact absurd hq (xge e)
        ·rename_i e;intro y hy;have hn:=xgn e y hy;unfold xfq at hn
         split at hn
         ·cases hn
         ·split at hn
          ·cases hn
          ·rename_i hra;unfold raE at hra;refine⟨fun h5=>?_,fun h13=>?_⟩
           ·simp[h5,inR] at hra
            omega
           ·simp[h13,inR] at hra
            simp[xbx]
            omega
  ·cases hm
theorem xiV {X:QW}(h:xau X=0)(fuel:Int)(look:σ->QS->Int->ByteArray->σ × (Int × Int)):EOk (⟨X.cz,fuel,look,xbV⟩:Env σ):=
 ⟨fun c n m hm=>xec h hm,fun c n q hq=>(by cases hq),fun c=>xdt h c⟩
theorem xnT {X:QW}(h:xau X=0){E:Env σ}(hE:EOk E)(hc:E.cz=X.cz)(d:Nat){m:Mc σ}(hm:m.heap=X.heap)(c n:Int){s:QV}{a:List QV}(hs:xaM X.heap.length s=0)(ha:VsOk X.heap.length a) :
  xau ⟨X.cz,(xbh E d m c n s a).1.heap,X.ez⟩=0/\X.heap.length<=(xbh E d m c n s a).1.heap.length/\xaM (xbh E d m c n s a).1.heap.length (xbh E d m c n s a).2.1=0:=by
 obtain⟨k1,k2⟩:=xoL hE d m c n s a (by rw[hm,hc];exact xdk h) (by rw[hm];exact hs) (by rw[hm];exact ha)
 refine⟨xhe h (by rw[← hc];exact k1.heap),by rw[← hm];exact k1.more,k2⟩
end
end Go.Proofs.YtbafokihegegiaaGreatDoor
