/- A part. -/
import Derived.Test.YtapbeiccodnniaaGreatM21
namespace Go.Proofs.YtapbeiccodnniaaGreat
open Go.ChangeShapes Go.WideShapes Go.ChangeAt Go.RowKit
set_option linter.unusedSimpArgs false
set_option linter.unusedVariables false
set_option maxHeartbeats 8000000
set_option maxRecDepth 8000
def Few (m:Mc RSt):Prop:=(m.st.length:Int)<=m.sz_
def xmP (m:Mc RSt):Prop:=(m.st.length:Int)<=m.sz_+1
def xmR {α:Type}(r:Mc RSt × α × Int):Prop:=(r.2.2=0->Few r.1)/\xmP r.1
def xgT (ent:Ent RSt):Prop:=∀ m c n s a,xmP m->xmR (ent m c n s a)
theorem Few.r {α:Type}{m:Mc RSt}(h:Few m)(f:α)(e:Int):xmR (m,f,e):=⟨fun _=>h,by unfold xmP;unfold Few at h;show (m.st.length:Int)<=m.sz_+1;omega⟩
theorem xiT {m:Mc RSt}(h:Few m)(f:Fr)(a b:Int):xmR (xaX m f a b):=by
 unfold xaX
 by_cases hb:b<=a
 ·simp only[hb,if_true];split<;>exact Few.r (m:={ m with turns:=m.turns+1 }) h _ _
 ·simp only[hb,if_false];split<;>exact Few.r h _ _
theorem xmh {X:QW}{fuel:Int}{ent:Ent RSt}(he:xgT ent){m:Mc RSt}(h:Few m)(f:Fr)(a:Int)(x:QI):xmR (xcm ent (xcK X fuel) m f a x):=by
 unfold xcm;simp only[]
 have hr:=he { m with st:=((xcK X fuel).look m.st (f.site a x) (xar m.heap (xaW (f.stack.take (xbu f.stack x.a)) 0)) x.name).1 } ((xcK X fuel).look m.st (f.site a x) (xar m.heap (xaW (f.stack.take (xbu f.stack x.a)) 0)) x.name).2.1 ((xcK X fuel).look m.st (f.site a x) (xar m.heap (xaW (f.stack.take (xbu f.stack x.a)) 0)) x.name).2.2 (xaW (f.stack.take (xbu f.stack x.a)) 0) (f.stack.drop (xbu f.stack x.a)) (by
  unfold xmP xcK;unfold Few at h;simp only[List.length_append,List.length_cons,List.length_nil];omega)
 split
 ·rename_i hne;exact⟨fun h0=>absurd h0 hne,hr.2⟩
 ·rename_i hne;exact⟨fun _=>hr.1 (by simpa using hne),hr.2⟩
theorem xiR {X:QW}{fuel:Int}{ent:Ent RSt}(he:xgT ent)(d:Nat){m:Mc RSt}(h:Few m){f:Fr}(hf:f.fast=false)(a:Int)(x:QI):xmR (xan ent (xcK X fuel) d m f a x):=by
 unfold xan
 split
 ·exact h.r _ _
 ·split
  ·exact h.r _ _
  ·split
   ·exact h.r _ _
   ·split
    ·exact h.r _ _
    ·split
     ·exact Few.r (m:={ m with heap:=_ }) h _ _
     ·split
      ·unfold xbQ
       split
       ·exact h.r _ _
       ·exact Few.r (m:={ m with heap:=_ }) h _ _
      ·split
       ·exact xmh he h f a x
       ·split
        ·exact xiT h f a x.a
        ·split
         ·unfold xbr
          split
          ·exact h.r _ _
          ·split
           ·exact xiT h _ a x.a
           ·exact h.r _ _
         ·unfold xcl;rw[if_pos hf]
          exact h.r _ _
theorem xkb {X:QW}{fuel:Int}{ent:Ent RSt}(he:xgT ent)(d:Nat):∀ (g:Nat) {m:Mc RSt} (h:Few m) {f:Fr} (hf:f.fast=false),xmR (xcL ent (xcK X fuel) d g m f)
 | 0,m,h,f,hf=>h.r _ _
 | g+1,m,h,f,hf=>by
  unfold xcL;generalize (if f.pc<0 then none else f.code[f.pc.toNat]?)=q
  cases q with
  | none=>exact h.r _ _
  | some x=>
   simp only[]
   split
   ·exact h.r _ _
   ·have hs:=xiR (X:=X) (fuel:=fuel) he d h (f:={ f with pc:=f.pc+1 }) hf f.pc x
    split
    ·rename_i hne;exact⟨fun h0=>absurd h0 hne,hs.2⟩
    ·rename_i hne
     exact xkb he d g (hs.1 (by simpa using hne)) (xna ent (xcK X fuel) d m { f with pc:=f.pc+1 } f.pc x hf)
theorem xha {X:QW}{fuel:Int}(d:Nat){body:Mc RSt->Fr->Mc RSt × QV × Int}(hb:∀ {m f},Few m->f.fast=false->xmR (body m f)):xgT (xbj (xcK X fuel) d body):=by
 intro m c n s a h;have h1:∀ (v:QV) (e:Int),e≠0->xmR (m,v,e):=fun v e he=>⟨fun h0=>absurd h0 he,h⟩
 unfold xbj
 cases hm:xaO (xcK X fuel).cz c n with
 | none=>exact h1 _ _ (by omega)
 | some mt=>
  simp only[]
  split
  ·exact h1 _ _ (by omega)
  ·split
   ·split
    ·exact h1 _ _ (by omega)
    ·have:Few { m with sz_:=m.sz_+1 }:=h
     exact this.r _ _
   ·split
    ·rename_i hne;exact h1 _ _ hne
    ·rename_i hne;unfold xay at hne ⊢
     split
     ·rename_i hc;rw[if_pos hc] at hne;simp at hne
     ·rename_i hc;rw[if_neg hc] at hne
      split
      ·rename_i hc;rw[if_pos hc] at hne;simp at hne
      ·exact hb (m:={ m with sz_:=m.sz_+1 }) h rfl
theorem xla (X:QW)(fuel:Int):∀ d:Nat,xgT (xa1 (xcK X fuel) d)
 | 0=>xha 0 fun h _=>h.r _ _
 | d+1=>xha (d+1) fun {m f} h hf=>xkb (xla X fuel d) d (xeQ f) h hf
abbrev Rp.E (p:Rp):Env RSt:=xcK p.X p.fuel
def xaS (p:Rp)(T:Nat->Nat)(w:World)(mb:Nat)(deep:Int)(K:Nat)(r:Mc RSt × QV × Int)(e:Ending)(w':World):Prop:=
 e=.returned (VV r.2.1)/\(∃ T' hv sv ov,Ext T T' w/\RMac p T' w' mb r.1 deep r.2.2 hv sv ov)/\Kp (All K) T w w'
def xoY (p:Rp)(d:Nat):Prop:=
 ∀ (K:Nat) (T:Nat->Nat) (w:World) (mb:Nat) (m:Mc RSt) (hv sv ov:Value) (c n:Int) (self:QV) (args:List QV) (av:Value) (mt:QM),5<=K->RMac p T w mb m (20-(d:Int)) 0 hv sv ov->MIn p.E m->xmP m->xas m.heap.length self=0->VsOk m.heap.length args->xaB (Fx T w) w av args->xaO p.X.cz c n=some mt->
  Calls Tryz.prog 35 #[.pointer (some ⟨mb,0,none⟩),.int .i64 c,.int .i64 n,VV self,av] w fun e w'=>xaS p T w mb (20-(d:Int)) K (xa1 p.E d m c n self args) e w'
structure Rx (p:Rp):Prop where
 right:xaJ p.X=0
 fuel:0<=p.fuel/\p.fuel<=400
theorem Rx.ok {p:Rp}(h:Rx p):EOk p.E:=xeM h.right _ _
structure BdR (p:Rp)(d:Nat)(T:Nat->Nat)(w:World)(mb K:Nat)(R:Mc RSt × QV × Int)(av kv:Value)(gk:Nat)(at':Value)(T1:Nat->Nat)(m:Mc RSt)(f:Fr)(err:Int)(wr:World):Prop where
 ext:Ext T T1 w
 kp:Kp (All K) T w wr
 mac:∃ hv sv ov,RMac p T1 wr mb m (20-(d:Int)) err hv sv ov
 res:wr.heap[w.heap.size+2]?=some (.cells #[.int .i64 0,.int .i64 0] 27 (0,0))
 tres:T1 (w.heap.size+2)=4
 pos:5<=K
 run:err=0->∃ st,RF T1 K wr w.heap.size f av kv st
 min:err=0->MIn p.E m/\Few m/\FOk p.X.cz m.heap.length f/\PlOk f/\muE m f<=gk/\xcL (xa1 p.E d) p.E d gk m f=R/\at'=.int .i64 f.pc
 bad:err≠0->R=(m,xaU,err)
section
variable {p:Rp} {d:Nat} {T T1 T2:Nat->Nat} {w wr w2:World} {mb K:Nat} {R:Mc RSt × QV × Int} {av kv:Value} {gk:Nat} {at' at2:Value} {m:Mc RSt} {f:Fr}
theorem BdR.next {G' k:Nat}{x:QI}(hX:Rx p)(hR:BdR p d T w mb K R av kv gk at' T1 m f 0 wr)(hg:gk=G'+1)(hx:NxOk f k x)(h17:x.op≠17){r:Mc RSt × Fr × Int}(hr:xan (xa1 p.E d) p.E d m { f with pc:=f.pc+1 } f.pc x=r)
  (hE:Ext T1 T2 wr) (hK:Kp (All K) T1 wr w2) {hv sv ov:Value} (hM:RMac p T2 w2 mb r.1 (20-(d:Int)) r.2.2 hv sv ov) (hF:r.2.2=0->∃ st,RF T2 K w2 w.heap.size r.2.1 av kv st) (ha:r.2.2=0->at2=.int .i64 r.2.1.pc) :
  BdR p d T w mb K R av kv G' at2 T2 r.1 r.2.1 r.2.2 w2:=by
 obtain⟨hI,hFew,hFo,hPl,hmu,hval,-⟩:=hR.min rfl;have hp:=hR.pos;have hpc:=hx.pc;have hlt:=hx.lt;have hcode:=hFo.code f.code[k] (List.getElem_mem hlt);have hxk:f.code[k]=x:=by have:=hx.here;rw[List.getElem?_eq_getElem hlt] at this;cases this;rfl
 rw[hxk] at hcode;have hst:=xgl hX.ok (xhl hX.ok d) d hI.heap (f:={ f with pc:=f.pc+1 }) ⟨hFo.self,hFo.args,hFo.temps,hFo.stack,hFo.code,hFo.plain⟩ f.pc hcode.1 hcode.2
 have hle:=xh5 (xlf p.E d) d hI.sz_.2 { f with pc:=f.pc+1 } f.pc x
 have htu:=xei (xcU p.E d) p.E d m { f with pc:=f.pc+1 } f.pc x
 have hfew:=xiR (X:=p.X) (fuel:=p.fuel) (xla p.X p.fuel d) d hFew (f:={ f with pc:=f.pc+1 }) hPl.fast f.pc x
 have hV:R=if r.2.2≠0 then (r.1,xaU,r.2.2) else xcL (xa1 p.E d) p.E d G' r.1 r.2.1:=by
  rw[← hval,hg]
  conv=>lhs;unfold xcL
  rw[hpc,if_neg (by omega)]
  simp only[Int.toNat_natCast,hx.here];rw[if_neg h17,← hpc,hr]
 rw[hr] at hst hle htu hfew;refine⟨hR.ext.trans hR.kp.size hE,hR.kp.trans hR.ext hK,⟨_,_,_,hM⟩,hK.held hR.res (by rw[hR.tres];unfold All;omega),by rw[hE _ (xaf hR.res)];exact hR.tres,hp,hF,fun h0=>?_,fun h0=>by rw[hV,if_pos h0]⟩
 have h0':(xan (xa1 p.E d) p.E d m { f with pc:=f.pc+1 } f.pc x).2.2=0:=by rw[hr];exact h0
 have ht:=xkU (xob p.E d) d hI.turns.2 (f:={ f with pc:=f.pc+1 }) h0'
 have hpl:=xn7 hPl hx h17 h0';have hmu2:=xhK (xcU p.E d) (E:=p.E) (d:=d) hI.turns.1 (f:=f) (by omega) (by omega) h0'
 rw[hr] at ht hpl hmu2;refine⟨⟨hst.1.heap,⟨by have:=hI.sz_;omega,hle.1⟩,⟨by have:=hI.turns;omega,ht⟩⟩,hfew.1 h0,hst.2 h0,hpl,by omega,?_,ha h0⟩
 rw[hV,if_neg (by simpa using h0)]
end
theorem xfA {w:World}(T ty e:TypeId)(z:Value)(sz bytes:Nat)(hT:Tryz.prog.underlying T=some (.slice e))(hI:(Tryz.prog.info? e).map (fun i=>(i.zero,i.size,i.bytes))=some (some z,sz,bytes))(hzs:z.cells.size=sz)(hsz:0<sz)
  (base n:Nat) (v:Value) (xs:List Value) (hown:ownsAt w base e sz v n xs) (Bb:Nat) (news:List Value) (hl:news.length=2*sz) (hX:w.heap[Bb]?=some (.cells news.toArray e (0,0))) (h1:∀ u∈news,u.oneCell'=true) (h63:n+2<=maxLen) (hby:(n+2)*bytes<=140737488355328) (hbase:base<=w.heap.size) :
  ∃ v' w',(Builtin.append_ #[T,T] ty #[v,.slice (some ⟨Bb,0,none⟩) 2 2]).run Tryz.prog w=.ok v' w'/\ownsAt w' base e sz v' (n+2) (xs++news)/\(v'.ownBlock=v.ownBlock\/∃ g,v'.ownBlock=some g/\w.heap.size<=g)/\Below base w w'/\(∀ b,b<w.heap.size->some b≠v.ownBlock->w'.heap[b]?=w.heap[b]?):=by
 obtain⟨i0,hi,hz0,hz1,hz2⟩:=xa3 hI;have hnews:∀ j u,news[j]?=some u->w.cell? ((⟨Bb,0,none⟩:Addr).add j)=some u:=fun j u hu=>by rw[Addr.add_lit,Nat.zero_add,qzB hX];simpa using hu
 obtain⟨hxl,⟨rfl,rfl⟩ | ⟨g,o,cap,cur,rfl,h3,h4,h5,h6,h7,h8⟩⟩:=id hown
 ·obtain⟨v',w',hrun,r1,r2,_⟩:=run_append_own (P:=Tryz.prog) w w.heap.size T ty e i0 z sz bytes hT hi hz0 hz1 hz2 hzs hsz (.slice none 0 0) 0 [] (World.ownsRow_nil w _ e sz) ⟨Bb,0,none⟩ 2 2 news (by omega) hnews h1 h63 hby (qzC _)
  have hxs:xs=[]:=List.eq_nil_of_length_eq_zero (by simpa using hxl)
  subst hxs;refine⟨v',w',hrun,xdq (by simpa using r1) hbase,Or.inr ?_,?_,fun b hb hne=>r2.block b hb hne⟩
  ·obtain⟨-,h | ⟨g,c,cur,e,h3,h4,-⟩⟩:=r1
   ·omega
   ·exact⟨g,by rw[e];rfl,h3⟩
  ·exact (qzL _ _).grown r2 hbase fun k hk=>by cases hk
 ·by_cases hr:n+2<=cap
  ·have hcs:cur.toList.length=cur.size:=by simp
   have hon:o+n*sz+news.length<=cur.size:=by
    have:(n+2)*sz<=cap*sz:=Nat.mul_le_mul_right _ hr;rw[Nat.add_mul] at this
    omega
   have hrun:=run_append_room_cells (P:=Tryz.prog) w T ty e i0 hT hi g o n cap ⟨Bb,0,none⟩ 2 2 news (by rw[hz1];omega) hnews h1 hr (fun j hj=>by rw[hz1,qzB h4];simp;omega) (fun j hj=>by unfold World.frozen?;simp[h4])
   rw[hz1] at hrun;have hrow:=xdl news (o+n*sz) w cur h4 hon;refine⟨_,_,hrun,⟨by rw[List.length_append,hxl,hl,Nat.add_mul],Or.inr ⟨g,o,cap,_,rfl,h3,hrow,hr,h6,?_,?_⟩⟩,Or.inl rfl,?_,fun b hb hne=>xaI (fun e=>hne (by rw[e];rfl)) _ _ _⟩
   ·simp
    omega
   ·rw[← h8]
    apply List.ext_getElem?
    intro i;simp only[List.getElem?_take,List.getElem?_drop,List.getElem?_append,List.length_append,List.length_take,List.length_drop,hcs];have e1:min (o+n*sz) cur.size=o+n*sz:=by omega
    have e2:min (n*sz) (cur.size-o)=n*sz:=by omega
    rw[e1,e2];have e3:(n+2)*sz=n*sz+2*sz:=by rw[Nat.add_mul]
    rw[e3]
    by_cases g1:i<n*sz
    ·simp[g1,show i<n*sz+2*sz by omega,show o+i<o+n*sz by omega,show o+i<o+n*sz+news.length by omega]
    ·by_cases g2:i<n*sz+2*sz
     ·simp[g1,g2,show ¬ (o+i<o+n*sz) by omega,show o+i<o+n*sz+news.length by omega,show o+i-(o+n*sz)=i-n*sz by omega]
     ·simp[g1,g2]
      omega
   ·refine⟨?_,?_,?_,?_,fun k hk=>xaI (by omega) _ _ _⟩
    ·exact (xbB _ _ _ _).os
    ·exact (xbB _ _ _ _).tape
    ·exact (xbB _ _ _ _).output
    ·rw[xbh];exact qzC _
  ·obtain⟨v',w',hrun,r1,r2⟩:=run_append_arg_grows (P:=Tryz.prog) w T ty e i0 z sz bytes hT hi hz0 hz1 hz2 hzs hsz ⟨g,o,none⟩ n cap xs hxl (fun j u hu=>by
    rw[Addr.add_lit,qzB h4];rw[← h8,List.getElem?_take] at hu
    split at hu
    ·rw[List.getElem?_drop] at hu;simpa using hu
    ·cases hu) ⟨Bb,0,none⟩ 2 2 news (by omega) hnews (by omega) h63 hby
   refine⟨v',w',hrun,xdq r1 hbase,Or.inr ?_,?_,fun b hb hne=>r2.block b hb (by simp)⟩
   ·obtain⟨-,h | ⟨g,c,cur,e,h3,h4,-⟩⟩:=r1
    ·omega
    ·exact⟨g,by rw[e];rfl,h3⟩
   ·exact (qzL _ _).grown r2 hbase fun k hk=>by cases hk
theorem xev {ops:Array Oper}{rest:List Oper}{o:Oper}{a:Act}{w:World}{Q:Exit->Act->World->Prop}(hgd:o.guard=none)(s x:Operand)(T e:TypeId)(z:Value)(sz bytes:Nat)
  (hop:o.op=Op.call { callee:=Callee.builtin Builtin.append,args:=#[s,x],argTypes:=#[T,T] }) (hT:Tryz.prog.underlying T=some (.slice e)) (hI:(Tryz.prog.info? e).map (fun i=>(i.zero,i.size,i.bytes))=some (some z,sz,bytes)) (hzs:z.cells.size=sz) (hsz:0<sz)
  (base n:Nat) (v:Value) (xs:List Value) (hs:a.eval s=v) (hown:ownsAt w base e sz v n xs) (Bb:Nat) (hx:a.eval x=.slice (some ⟨Bb,0,none⟩) 2 2) (news:List Value) (hl:news.length=2*sz) (hX:w.heap[Bb]?=some (.cells news.toArray e (0,0))) (h1:∀ u∈news,u.oneCell'=true) (h63:n+2<=maxLen) (hby:(n+2)*bytes<=140737488355328) (hbase:base<=w.heap.size)
  (hK:∀ a' cap' w',ownsAt w' base e sz (.slice a' (n+2) cap') (n+2) (xs++news)->((Value.slice a' (n+2) cap').ownBlock=v.ownBlock\/∃ g,(Value.slice a' (n+2) cap').ownBlock=some g/\w.heap.size<=g)->Below base w w'->(∀ b,b<w.heap.size->some b≠v.ownBlock->w'.heap[b]?=w.heap[b]?)->wpList Tryz.prog ops Q rest (a.put o.dst (.slice a' (n+2) cap')) w') :
  wpList Tryz.prog ops Q (o :: rest) a w:=by
 refine wpList_plain hgd fun K hKK=>?_
 obtain⟨v',w',hrun,r1,r2,r3,r4⟩:=xfA T o.type e z sz bytes hT hI hzs hsz base n v xs hown Bb news hl hX h1 h63 hby hbase;obtain⟨a',cap',rfl,-⟩:=r1.form;unfold Oper.wp
 simp[execOp,hop,resolve,invoke,builtin,hs,hx,hrun,Result.andThen]
 exact hKK _ _ (hK a' cap' w' r1 r2 r3 r4)
def xlK (T:Nat->Nat)(B K:Nat):Nat->Nat:=fun b=>if b<B then T b else if b=B+3 then K+1 else if b=B+4 then K else 4
section
variable {p:Rp} {d:Nat} {T T1 T2:Nat->Nat} {w wr w2:World} {mb K:Nat} {R:Mc RSt × QV × Int} {av kv:Value} {gk:Nat} {at' at2:Value} {m:Mc RSt} {f:Fr}
theorem xjP {hv sv ov:Value}(h:RMac p T w mb m (20-(d:Int)) 0 hv sv ov)(hK:5<=K)(hI:MIn p.E m)(hW:Few m)(hFo:FOk p.X.cz m.heap.length f)(hPl:PlOk f)(hA:xaB (Fx T w) w av f.args)(hC:xa5 (Fx T w) w kv f.meth.code)(hst:f.stack=[])(hpc:f.pc=0)(hR:xcL (xa1 p.E d) p.E d (xeQ f) m f=R){U:World}(hb:Below w.heap.size w U)
  (u0:U.heap[w.heap.size]?=some (.cells #[.string f.meth.name,.int .i64 f.meth.args,.int .i64 f.meth.temps,.int .i64 f.meth.prim,kv] 59 (0,0))) (u1:U.heap[w.heap.size+1]?=some (.cells #[.int .i64 f.self.k,.int .i64 f.self.n] 27 (0,0))) (u2:U.heap[w.heap.size+2]?=some (.cells #[.int .i64 0,.int .i64 0] 27 (0,0)))
  (u3:U.heap[w.heap.size+3]?=some (.cells (xal f.temps).toArray 27 (0,0))) (u4:U.heap[w.heap.size+4]?=some (.cells #[.slice none 0 0] 28 (0,0))):BdR p d T w mb K R av kv (xeQ f) (.int .i64 0) (xlK T w.heap.size K) m f 0 U:=by
 have hE:Ext T (xlK T w.heap.size K) w:=fun b hb=>by unfold xlK;rw[if_pos hb]
 have hk:Kp (fun _=>False) T w U:=Kp.of_below hb
 refine⟨hE,Kp.of_below hb,⟨_,_,_,h.keep hE hk id id id id⟩,u2,?_,hK,fun _=>⟨.slice none 0 0,u0,u1,u3,u4,?_,?_,?_,?_,?_,?_,?_,hA.fx xaK hE hk id,by rw[hPl.code];exact hC.fx xbl hE hk id,hK⟩,fun _=>⟨hI,hW,hFo,hPl,xkZ hI.turns.1,hR,by rw[hpc]⟩,fun h=>absurd rfl h⟩
 ·unfold xlK;rw[if_neg (by omega),if_neg (by omega),if_neg (by omega)]
 ·unfold xlK;rw[if_neg (by omega),if_neg (by omega),if_neg (by omega)]
 ·unfold xlK;rw[if_neg (by omega),if_neg (by omega),if_neg (by omega)]
 ·unfold xlK;rw[if_neg (by omega),if_pos rfl]
 ·unfold xlK;rw[if_neg (by omega),if_neg (by omega),if_pos rfl]
 ·rw[hst];exact⟨rfl,Or.inl ⟨rfl,rfl⟩⟩
 ·intro g hg;cases hg
 ·rw[hst];simp
theorem xot (w:World)(o0 o1 o2 o3 o4:Obj):((((((w.alloc o0).alloc o1).alloc o2).alloc o3).alloc o4).heap[w.heap.size]?=some o0/\(((((w.alloc o0).alloc o1).alloc o2).alloc o3).alloc o4).heap[w.heap.size+1]?=some o1/\(((((w.alloc o0).alloc o1).alloc o2).alloc o3).alloc o4).heap[w.heap.size+2]?=some o2)/\(((((w.alloc o0).alloc o1).alloc o2).alloc o3).alloc o4).heap[w.heap.size+3]?=some o3/\(((((w.alloc o0).alloc o1).alloc o2).alloc o3).alloc o4).heap[w.heap.size+4]?=some o4:=by
 have s1:(w.alloc o0).heap.size=w.heap.size+1:=by simp
 have s2:((w.alloc o0).alloc o1).heap.size=w.heap.size+2:=by simp
 have s3:(((w.alloc o0).alloc o1).alloc o2).heap.size=w.heap.size+3:=by simp
 have s4:((((w.alloc o0).alloc o1).alloc o2).alloc o3).heap.size=w.heap.size+4:=by simp
 have h0:=qzJ w o0;have h1:=qzJ (w.alloc o0) o1;have h2:=qzJ ((w.alloc o0).alloc o1) o2;have h3:=qzJ (((w.alloc o0).alloc o1).alloc o2) o3;have h4:=qzJ ((((w.alloc o0).alloc o1).alloc o2).alloc o3) o4;rw[s1] at h1;rw[s2] at h2;rw[s3] at h3;rw[s4] at h4
 exact⟨⟨xac (xac (xac (xac h0 (xaj _ _)) (xaj _ _)) (xaj _ _)) (xaj _ _),xac (xac (xac h1 (xaj _ _)) (xaj _ _)) (xaj _ _),xac (xac h2 (xaj _ _)) (xaj _ _)⟩,xac h3 (xaj _ _),h4⟩
structure InB (W:World)(b:Nat)(x:QI):Prop where
 x0:W.cell? ⟨b,0,none⟩=some (.int .i64 x.op)
 x1:W.cell? ⟨b,1,none⟩=some (.int .i64 x.a)
 x4:W.cell? ⟨b,4,none⟩=some (.string x.name)
theorem xj8 (w:World)(x:QI):InB (w.alloc (.cells #[.int .i64 x.op,.int .i64 x.a,.int .i64 x.b,.int .i64 x.c,.string x.name] 76)) w.heap.size x:=⟨xaa _ _ _ _ rfl 0,xaa _ _ _ _ rfl 1,xaa _ _ _ _ rfl 4⟩
theorem InB.later {W W':World}{b:Nat}{x:QI}(h:InB W b x)(hb:Below W.heap.size W W'):InB W' b x:=⟨qzA hb h.x0,qzA hb h.x1,qzA hb h.x4⟩
abbrev xiO (c:Int)(n1 n2 n3:Nat)(f:Fr):Prop:=f.cls=c/\f.args.length=n1/\f.temps.length=n2/\f.code.length=n3
abbrev BdX (p:Rp)(d:Nat)(T:Nat->Nat)(w:World)(mb K:Nat)(R:Mc RSt × QV × Int)(av kv:Value)(c:Int)(n1 n2 n3:Nat)(gk:Nat)(at':Value)(wr:World):Prop:=
 ∃ T1 m f err,BdR p d T w mb K R av kv gk at' T1 m f err wr/\(err=0->xiO c n1 n2 n3 f)
theorem xdB {S:Nat->Prop}{U:World}(k:Kp S T1 wr U)(h:∀ t,S t->t=1\/t=2\/t=3\/K<=t):Kp (All K) T1 wr U:=k.mono fun t ht=>h t ht
variable {c:Int} {n1 n2 n3 G' k:Nat} {x:QI} {hv sv ov st st':Value} {U w':World}
theorem xcF (hX:Rx p)(hR:BdR p d T w mb K R av kv gk at' T1 m f 0 wr)(hg:gk=G'+1)(hx:NxOk f k x){v:QV}(hpu:xaA m.heap { f with pc:=f.pc+1 } x=some v)(hM:RMac p T1 wr mb m (20-(d:Int)) 0 hv sv ov)(hF:RF T1 K wr w.heap.size f av kv st)(hL:xiO c n1 n2 n3 f)(hU:Below wr.heap.size wr U)
  (r1:ownsAt w' 0 27 2 st' (f.stack.length+1) (xal f.stack++[.int .i64 v.k,.int .i64 v.n])) (r2:st'.ownBlock=st.ownBlock\/∃ g,st'.ownBlock=some g/\U.heap.size<=g) (r3:Below 0 U w') (r4:∀ b,b<U.heap.size->some b≠st.ownBlock->w'.heap[b]?=U.heap[b]?) :
  BdX p d T w mb K R av kv c n1 n2 n3 G' (.int .i64 ((k:Int)+1)) (w'.setCell ⟨w.heap.size+4,0,none⟩ st'):=by
 have hp:=hF.pos;have hfew:=hx.few;obtain⟨⟨T2,e1,e2⟩,e3⟩:=hF.pushed (vs:=[v]) hU (by simp;omega) (by simpa [xal] using r1) r2 r3 r4
 have ho:=xfQ hpu;have hr:xan (xa1 p.E d) p.E d m { f with pc:=f.pc+1 } f.pc x=(m,({ f with pc:=f.pc+1 }:Fr).push v,0):=by unfold xan;rw[hpu]
 exact⟨_,_,_,_,hR.next hX hg hx (by omega) hr e1 (xdB e3 fun t ht=>by omega) (hM.keep e1 e3 (by omega) (by omega) (by omega) (by omega)) (fun _=>⟨_,e2.at _⟩) (fun _=>by show _=Value.int .i64 (f.pc+1);rw[hx.pc]),fun _=>hL⟩
theorem xbR (hF:RF T1 K wr w.heap.size f av kv st)(hU:Below wr.heap.size wr U)(r4:∀ b,b<U.heap.size->some b≠st.ownBlock->w'.heap[b]?=U.heap[b]?):w'.cell? ⟨w.heap.size+4,0,none⟩=some st/\∀ o,w'.frozen? ⟨w.heap.size+4,o,none⟩=false:=by
 have hlt:=xaf hF.sb;have hp:=hF.pos;have hnb:some (w.heap.size+4)≠st.ownBlock:=fun e=>by have:=hF.stag _ e.symm;rw[hF.t4] at this;omega
 have hbx:w'.heap[w.heap.size+4]?=some (.cells #[st] 28 (0,0)):=by rw[r4 _ (qzE hlt hU.size) hnb,hU.block _ hlt];exact hF.sb
 exact⟨by rw[qzB hbx];rfl,xam hbx⟩
theorem xnX (hX:Rx p)(hR:BdR p d T w mb K R av kv gk at' T1 m f 0 wr)(hg:gk=G'+1)(hx:NxOk f k x)(hop:x.op=9\/False)(hM:RMac p T1 wr mb m (20-(d:Int)) 0 hv sv ov)(hL:xiO c n1 n2 n3 f)(hU:Below wr.heap.size wr U)(hF:RF T1 K w' w.heap.size f.pop av kv st')(hK:Kp (fun t=>t=K\/t=K+2) T1 U w') :
  BdX p d T w mb K R av kv c n1 n2 n3 G' (.int .i64 ((k:Int)+1)) w':=by
 have hp:=hR.pos;have ho:x.op=9:=hop.elim id False.elim
 have hr:xan (xa1 p.E d) p.E d m { f with pc:=f.pc+1 } f.pc x=(m,({ f with pc:=f.pc+1 }:Fr).pop,0):=by
  have hpu:xaA m.heap { f with pc:=f.pc+1 } x=none:=by unfold xaA;simp[ho]
  unfold xan;rw[hpu];simp only[];rw[if_pos ho]
 have k2:Kp (fun t=>t=K\/t=K+2) T1 wr w':=(Kp.of_below hU).trans (.refl _ _) hK
 exact⟨_,_,_,_,hR.next hX hg hx (by omega) hr (.refl _ _) (xdB k2 fun t ht=>by omega) (hM.keep (.refl _ _) k2 (by omega) (by omega) (by omega) (by omega)) (fun _=>⟨_,hF.at _⟩) (fun _=>by show _=Value.int .i64 (f.pc+1);rw[hx.pc]),fun _=>hL⟩
structure PcS (p:Rp)(T1:Nat->Nat)(K:Nat)(w wr:World)(mb:Nat)(m:Mc RSt)(d:Nat)(f:Fr)(hv sv ov av kv st:Value)(W:World):Prop where
 mac:RMac p T1 W mb m (20-(d:Int)) 0 hv sv ov
 fr:RF T1 K W w.heap.size f av kv st
 bel:Below wr.heap.size wr W
theorem pcS {a b:Addr}{y z:Value}{W W':World}(h1:W.cell? a=some y)(h2:W.cell? b=some z)(h:PcS p T1 K w wr mb m d f hv sv ov av kv st W)(hb:Below W.heap.size W W'):W'.cell? a=some y/\W'.cell? b=some z/\PcS p T1 K w wr mb m d f hv sv ov av kv st W':=⟨qzA hb h1,qzA hb h2,h.mac.later hb,h.fr.later hb,xah h.bel hb⟩
theorem pcL {a b:Addr}{y z:Value}{W W':World}(h:W.cell? a=some y/\W.cell? b=some z/\PcS p T1 K w wr mb m d f hv sv ov av kv st W)(hb:Below W.heap.size W W'):W'.cell? a=some y/\W'.cell? b=some z/\PcS p T1 K w wr mb m d f hv sv ov av kv st W':=pcS h.1 h.2.1 h.2.2 hb
theorem BdR.set_res (hR:BdR p d T w mb K R av kv gk at' T1 m f 0 wr){T2:Nat->Nat}{W2:World}(hE:Ext T1 T2 wr)(hK:Kp (All K) T1 wr W2)(hM:RMac p T2 W2 mb m (20-(d:Int)) 0 hv sv ov){v:QV}(hV:R=(m,v,0)):xaS p T w mb (20-(d:Int)) K R (.returned (VV v)) ((W2.setCell ⟨w.heap.size+2,0,none⟩ (.int .i64 v.k)).setCell ⟨w.heap.size+2,1,none⟩ (.int .i64 v.n)):=by
 have hp:=hR.pos;have ht:T2 (w.heap.size+2)=4:=by rw[hE _ (xaf hR.res)];exact hR.tres
 have k4:Kp (fun t=>t=4) T2 W2 ((W2.setCell ⟨w.heap.size+2,0,none⟩ (.int .i64 v.k)).setCell ⟨w.heap.size+2,1,none⟩ (.int .i64 v.n)):=((Kp.refl (fun t=>t=4) T2 W2).set (b:=w.heap.size+2) (fun _=>ht) _ _).set (b:=w.heap.size+2) (fun _=>ht) _ _
 have k0:Kp (All K) T w W2:=hR.kp.trans hR.ext hK;subst hV;refine⟨rfl,⟨T2,_,_,_,hR.ext.trans hR.kp.size hE,hM.keep (.refl _ _) k4 (by omega) (by omega) (by omega) (by omega)⟩,(k0.set (fun h=>by omega) _ _).set (fun h=>by omega) _ _⟩
theorem xoc (hR:BdR p d T w mb K R av kv gk at' T1 m f 0 wr)(hg:gk=G'+1)(hx:NxOk f k x)(hop:x.op=17):R=(m,f.top,0):=by
 obtain⟨-,-,-,-,-,hval,-⟩:=hR.min rfl;rw[← hval,hg]
 conv=>lhs;unfold xcL
 rw[hx.pc,if_neg (by omega)]
 simp only[Int.toNat_natCast,hx.here];rw[if_pos hop]
theorem xoB (hR:BdR p d T w mb K R av kv gk at' T1 m f 0 wr){W2:World}(hK:Kp (All K) T1 wr W2):(W2.cell? ⟨w.heap.size+2,0,none⟩=some (.int .i64 0)/\W2.cell? ⟨w.heap.size+2,1,none⟩=some (.int .i64 0))/\∀ o,W2.frozen? ⟨w.heap.size+2,o,none⟩=false:=by
 have hp:=hR.pos;have hb:=hK.held hR.res (by rw[hR.tres];unfold All;omega)
 exact⟨⟨by rw[qzB hb];rfl,by rw[qzB hb];rfl⟩,xam hb⟩
theorem xbK (ent:Ent RSt)(E:Env RSt)(hop:9<=x.op):xan ent E d m { f with pc:=f.pc+1 } f.pc x=xcy ent E d m { f with pc:=f.pc+1 } f.pc x:=by
 have hpu:xaA m.heap { f with pc:=f.pc+1 } x=none:=by
  unfold xaA;rw[if_neg (by omega),if_neg (by omega),if_neg (by omega),if_neg (by omega),if_neg (by omega),if_neg (by omega),if_neg (by omega),if_neg (by omega)]
 unfold xan xcy;rw[hpu]
theorem xcj (hX:Rx p)(hR:BdR p d T w mb K R av kv gk at' T1 m f 0 wr)(hg:gk=G'+1)(hx:NxOk f k x)(h17:x.op≠17){r:Mc RSt × Fr × Int}(hr:xan (xa1 p.E d) p.E d m { f with pc:=f.pc+1 } f.pc x=r){T2:Nat->Nat}{W2:World}(hE:Ext T1 T2 wr)(hK:Kp (All K) T1 wr W2)(hM:RMac p T2 W2 mb r.1 (20-(d:Int)) r.2.2 hv sv ov)(hF:r.2.2=0->∃ st,RF T2 K W2 w.heap.size r.2.1 av kv st)(hpc:r.2.2=0->r.2.1.pc=(k:Int)+1)(hL:r.2.2=0->xiO c n1 n2 n3 r.2.1) :
  BdX p d T w mb K R av kv c n1 n2 n3 G' (.int .i64 ((k:Int)+1)) W2:=
 ⟨_,_,_,_,hR.next hX hg hx h17 hr hE hK hM hF (fun h=>by rw[hpc h]),hL⟩
end
theorem xbv {P:Program}{ops:Array Oper}{o:Oper}{a:Act}{w:World}{K:Act->World->Prop}{Q:Exit->Act->World->Prop}{E:Prop}(hg:o.guard=none)(fn:Nat)(cal:Operand)(args:Array Operand)(tys:Array TypeId)(hop:o.op=Op.call { callee:=Callee.value cal,args:=args,argTypes:=tys })
  (caps:Array Value) (hcal:a.eval cal=.func (.func fn) #[] caps) (vs:Array Value) (hvs:args.map a.eval=vs) (hcf:(callFunc fn (vs++caps)).run P w=.ok (.enter fn (vs++caps)) w) (hc:Calls P fn (vs++caps) w fun e w'=>∃ v,e=.returned v/\K (a.put o.dst v) w'):if Region.wanted o (yielded ops a.tmps)=true then Oper.wp P o a w K Q else E:=by
 have hw:Region.wanted o (yielded ops a.tmps)=true:=by simp[Region.wanted,hg]
 rw[if_pos hw];unfold Oper.wp
 have hr:(execOp a.eval o).run P w=.ok (.enter fn (vs++caps)) w:=by
  simp[execOp,hop,resolve,invoke,hcal,hvs,Deferred.ofValue]
  exact hcf
 rw[hr,Oper.upon_enter];refine hc.mono ?_;rintro e w' ⟨v,rfl,h⟩
 exact h
theorem xhd {fn:Nat}{f:Func}(hf:Tryz.prog.funcs[fn]?=some f)(hn:(f.name == "runtime.NumGoroutine")=false)(hb:f.body.isSome=true)(args:Array Value)(w:World):(callFunc fn args).run Tryz.prog w=.ok (.enter fn args) w:=by
 have h1:¬ f.name = "runtime.NumGoroutine" := by simpa using hn
 have h2:¬ f.body=none:=by intro h;rw[h] at hb;cases hb
 simp[callFunc,hf,h1,h2]
theorem cf46 (args:Array Value)(w:World):(callFunc 67 args).run Tryz.prog w=.ok (.enter 67 args) w:=xhd Tryz.func67 (by kernel_rfl) (by kernel_rfl) args w
theorem cf48 (args:Array Value)(w:World):(callFunc 69 args).run Tryz.prog w=.ok (.enter 69 args) w:=xhd Tryz.func69 (by kernel_rfl) (by kernel_rfl) args w
theorem cf47 (args:Array Value)(w:World):(callFunc 68 args).run Tryz.prog w=.ok (.enter 68 args) w:=xhd Tryz.func68 (by kernel_rfl) (by kernel_rfl) args w
theorem cf49 (args:Array Value)(w:World):(callFunc 70 args).run Tryz.prog w=.ok (.enter 70 args) w:=xhd Tryz.func70 (by kernel_rfl) (by kernel_rfl) args w
theorem cf17 (args:Array Value)(w:World):(callFunc 16 args).run Tryz.prog w=.ok (.enter 16 args) w:=xhd Tryz.func16 (by kernel_rfl) (by kernel_rfl) args w
theorem cf22 (args:Array Value)(w:World):(callFunc 19 args).run Tryz.prog w=.ok (.enter 19 args) w:=xhd Tryz.func19 (by kernel_rfl) (by kernel_rfl) args w
theorem cf23 (args:Array Value)(w:World):(callFunc 34 args).run Tryz.prog w=.ok (.enter 34 args) w:=xhd Tryz.func34 (by kernel_rfl) (by kernel_rfl) args w
theorem cf24 (args:Array Value)(w:World):(callFunc 35 args).run Tryz.prog w=.ok (.enter 35 args) w:=xhd Tryz.func35 (by kernel_rfl) (by kernel_rfl) args w
theorem xmr {w:World}{l:List Int}(hl:l.length<=1000)(n:Nat)(hn:w.heap.size=n):xiS (fun b=>n<=b) (w.alloc (.cells (xcg l).toArray 3 (0,0))) (.slice (some ⟨n,0,none⟩) l.length l.length) l:=
 Cells.row (xi2 l) xlb (qzC _) (xba _ _ _ hn) (by rw[List.take_of_length_le (by simp[xcg])];simp[xcg]) (qzC _) (by unfold maxLen;omega) (by omega)
def NextP (w:World)(x:QI)(p:Int)(e:Ending)(w':World):Prop:=
 ∃ a k,e=.returned (.tuple #[.int .i64 (xaN x p).need,.int .i64 (xaN x p).more,.slice a (xaN x p).next.length k])/\xiS (fun b=>w.heap.size<=b) w' (.slice a (xaN x p).next.length k) (xaN x p).next/\Below w.heap.size w w'
theorem NextP.mk {w W:World}{x:QI}{p need more:Int}{l:List Int}{e:Ending}{n:Nat}(h:xaN x p=⟨need,more,l⟩)(hn:W.heap.size=n)(hl:l.length<=1000)(hw:w.heap.size<=n)(he:e=.returned (.tuple #[.int .i64 need,.int .i64 more,.slice (some ⟨n,0,none⟩) l.length l.length]))(hb:Below w.heap.size w W):NextP w x p e (W.alloc (.cells (xcg l).toArray 3 (0,0))):=by
 unfold NextP;rw[h]
 exact⟨_,_,he,(xmr hl n hn).mono xlb fun b hb=>by omega,hb.alloc (by omega) _⟩
theorem NextP.drew {w w':World}{x:QI}{p:Int}{e:Ending}(h:NextP w x p e w'):NextP w x p e w'.drew:=by
 obtain⟨a,k,h1,h2,h3⟩:=h
 exact⟨a,k,h1,h2.later xlb (qzL _ _).drew,h3.drew⟩
theorem xlr (x:QI)(p:Int)(w:World)(hx:x.op=14->0<=x.a/\x.a<=4)(hp:IntKind.i64.wrap (p+1)=p+1):Calls Tryz.prog 53 #[IV x,.int .i64 p] w fun e w'=>NextP w x p e w':=by
 obtain⟨op,xa,xb,xc,nm⟩:=x;simp only at hx;have hb1:=xaj w (Obj.cells #[.int .i64 op,.int .i64 xa,.int .i64 xb,.int .i64 xc,.string nm] 76);go_enter Tryz.func53,Tryz.ntmps53
 by_cases h1:op=9\/op=11\/op=12
 ·rcases h1 with rfl | rfl | rfl
  all_goals
   go_wp2;refine qzK (v:=.tuple #[.int .i64 1,.int .i64 (-1),.slice (some ⟨w.heap.size+1,0,none⟩) 1 1]) (by simp[results,Tryz.results53,go_sem]) rfl (NextP.mk (l:=[p+1]) (by simp[xaN]) (by simp) (by simp) (by omega) rfl (xaj _ _))
 ·by_cases h2:op=10
  ·subst h2;go_wp2;refine qzK (v:=.tuple #[.int .i64 (1),.int .i64 (1),.slice (some ⟨w.heap.size+1,0,none⟩) 1 1]) (by simp[results,Tryz.results53,go_sem]) rfl (NextP.mk (l:=[p+1]) (by simp[xaN]) (by simp) (by simp) (by omega) rfl (xaj _ _))
  ·by_cases h3:op=14
   ·subst h3;obtain⟨q1,q2⟩:=hx rfl;have hw1:IntKind.i64.wrap (xa+1)=xa+1:=xaE (by omega) (by omega)
    have hw2:IntKind.i64.wrap (-xa)=-xa:=xaE (by omega) (by omega)
    go_wp2
    go_region
    all_goals go_wp2
    all_goals refine qzK (v:=.tuple #[.int .i64 (xa+1),.int .i64 (-xa),.slice (some ⟨w.heap.size+1,0,none⟩) 1 1]) (by simp[results,Tryz.results53,go_sem]) rfl ?_
    all_goals exact (NextP.mk (l:=[p+1]) (by simp[xaN]) (by simp) (by simp) (by omega) rfl (xaj _ _)).drew
   ·by_cases h4:op=15
    ·subst h4;go_wp2
     go_region
     all_goals go_wp2
     all_goals refine qzK (v:=.tuple #[.int .i64 0,.int .i64 0,.slice (some ⟨w.heap.size+1,0,none⟩) 1 1]) (by simp[results,Tryz.results53,go_sem]) rfl ?_
     all_goals exact (NextP.mk (l:=[xa]) (by simp[xaN]) (by simp) (by simp) (by omega) rfl (xaj _ _)).drew
    ·by_cases h5:op=16
     ·subst h5;go_wp2
      go_region
      all_goals go_wp2
      all_goals refine qzK (v:=.tuple #[.int .i64 1,.int .i64 (-1),.slice (some ⟨w.heap.size+1,0,none⟩) 2 2]) (by simp[results,Tryz.results53,go_sem]) rfl ?_
      all_goals exact (NextP.mk (l:=[p+1,xa]) (by simp[xaN]) (by simp) (by simp) (by omega) rfl (xaj _ _)).drew
     ·by_cases h6:op=17
      ·subst h6;go_wp2;refine qzK (v:=.tuple #[.int .i64 1,.int .i64 (-1),.slice none 0 0]) (by simp[results,Tryz.results53,go_sem]) rfl ?_
       unfold NextP;rw[show xaN ⟨17,xa,xb,xc,nm⟩ p=⟨1,-1,[]⟩ from by simp[xaN]]
       exact⟨none,0,rfl,xbG,xaj _ _⟩
      ·have n1:¬ op=9:=fun h=>h1 (Or.inl h)
       have n2:¬ op=11:=fun h=>h1 (Or.inr (Or.inl h))
       have n3:¬ op=12:=fun h=>h1 (Or.inr (Or.inr h))
       go_wp2;refine qzK (v:=.tuple #[.int .i64 0,.int .i64 1,.slice (some ⟨w.heap.size+1,0,none⟩) 1 1]) (by simp[results,Tryz.results53,go_sem]) rfl (NextP.mk (l:=[p+1]) (by simp[xaN,h2,h3,h4,h5,h6,n1,n2,n3]) (by simp) (by simp) (by omega) rfl (xaj _ _))
end Go.Proofs.YtapbeiccodnniaaGreat
