/- A part. -/
import Derived.Test.YtaodadfahifbpaaGreatQ13
import Derived.Test.YtaodadfahifbpaaGreatQ6
namespace Go.Proofs.YtaodadfahifbpaaGreat
open Go.ChangeShapes Go.WideShapes Go.ChangeAt Go.RowKit
set_option linter.unusedSimpArgs false
set_option linter.unusedVariables false
set_option maxHeartbeats 8000000
set_option maxRecDepth 8000
def Few (m:Mc RSt):Prop:=(m.st.length:Int)<=m.sz_
def xpk (m:Mc RSt):Prop:=(m.st.length:Int)<=m.sz_+1
def xpl {α:Type}(r:Mc RSt × α × Int):Prop:=(r.2.2=0->Few r.1)/\xpk r.1
def xh6 (ent:Ent RSt):Prop:=∀ m c n s a,xpk m->xpl (ent m c n s a)
theorem Few.r {α:Type}{m:Mc RSt}(h:Few m)(f:α)(e:Int):xpl (m,f,e):=⟨fun _=>h,by unfold xpk;unfold Few at h;show (m.st.length:Int)<=m.sz_+1;omega⟩
theorem xkk {m:Mc RSt}(h:Few m)(f:Fr)(a b:Int):xpl (xaV m f a b):=by
 unfold xaV
 by_cases hb:b<=a
 ·simp only[hb,if_true];split<;>exact Few.r (m:={ m with tz:=m.tz+1 }) h _ _
 ·simp only[hb,if_false];split<;>exact Few.r h _ _
theorem xn3 {X:QW}{fuel:Int}{ent:Ent RSt}(he:xh6 ent){m:Mc RSt}(h:Few m)(f:Fr)(a:Int)(x:QI):xpl (xbD ent (xcX X fuel) m f a x):=by
 unfold xbD;simp only[]
 have hr:=he { m with st:=((xcX X fuel).look m.st (f.site a x) (xas m.heap (xaQ (f.stack.take (xbp f.stack x.a)) 0)) x.name).1 } ((xcX X fuel).look m.st (f.site a x) (xas m.heap (xaQ (f.stack.take (xbp f.stack x.a)) 0)) x.name).2.1 ((xcX X fuel).look m.st (f.site a x) (xas m.heap (xaQ (f.stack.take (xbp f.stack x.a)) 0)) x.name).2.2 (xaQ (f.stack.take (xbp f.stack x.a)) 0) (f.stack.drop (xbp f.stack x.a)) (by
  unfold xpk xcX;unfold Few at h;simp only[List.length_append,List.length_cons,List.length_nil];omega)
 split
 ·rename_i hne;exact⟨fun h0=>absurd h0 hne,hr.2⟩
 ·rename_i hne;exact⟨fun _=>hr.1 (by simpa using hne),hr.2⟩
theorem xkE {X:QW}{fuel:Int}{ent:Ent RSt}(he:xh6 ent)(d:Nat){m:Mc RSt}(h:Few m){f:Fr}(hf:f.fast=false)(a:Int)(x:QI):xpl (xaj ent (xcX X fuel) d m f a x):=by
 unfold xaj
 split
 ·exact h.r _ _
 ·split
  ·exact h.r _ _
  ·split
   ·exact h.r _ _
   ·split
    ·exact h.r _ _
    ·split
     ·exact Few.r (m:={ m with heap:=_ }) h _ _
     ·split
      ·unfold xbV
       split
       ·exact h.r _ _
       ·exact Few.r (m:={ m with heap:=_ }) h _ _
      ·split
       ·exact xn3 he h f a x
       ·split
        ·exact xkk h f a x.a
        ·split
         ·unfold xbz
          split
          ·exact h.r _ _
          ·split
           ·exact xkk h _ a x.a
           ·exact h.r _ _
         ·unfold xbQ;rw[if_pos hf]
          exact h.r _ _
theorem xnC {X:QW}{fuel:Int}{ent:Ent RSt}(he:xh6 ent)(d:Nat):∀ (g:Nat) {m:Mc RSt} (h:Few m) {f:Fr} (hf:f.fast=false),xpl (xb7 ent (xcX X fuel) d g m f)
 | 0,m,h,f,hf=>h.r _ _
 | g+1,m,h,f,hf=>by
  unfold xb7;generalize (if f.pc<0 then none else f.code[f.pc.toNat]?)=q
  cases q with
  | none=>exact h.r _ _
  | some x=>
   simp only[]
   split
   ·exact h.r _ _
   ·have hs:=xkE (X:=X) (fuel:=fuel) he d h (f:={ f with pc:=f.pc+1 }) hf f.pc x
    split
    ·rename_i hne;exact⟨fun h0=>absurd h0 hne,hs.2⟩
    ·rename_i hne
     exact xnC he d g (hs.1 (by simpa using hne)) (xpS ent (xcX X fuel) d m { f with pc:=f.pc+1 } f.pc x hf)
theorem xih {X:QW}{fuel:Int}(d:Nat){body:Mc RSt->Fr->Mc RSt × QV × Int}(hb:∀ {m f},Few m->f.fast=false->xpl (body m f)):xh6 (xbc (xcX X fuel) d body):=by
 intro m c n s a h;have h1:∀ (v:QV) (e:Int),e≠0->xpl (m,v,e):=fun v e he=>⟨fun h0=>absurd h0 he,h⟩
 unfold xbc
 cases hm:xaI (xcX X fuel).cz c n with
 | none=>exact h1 _ _ (by omega)
 | some mt=>
  simp only[]
  split
  ·exact h1 _ _ (by omega)
  ·split
   ·split
    ·exact h1 _ _ (by omega)
    ·have:Few { m with sz_:=m.sz_+1 }:=h
     exact this.r _ _
   ·split
    ·rename_i hne;exact h1 _ _ hne
    ·rename_i hne;unfold xau at hne ⊢
     split
     ·rename_i hc;rw[if_pos hc] at hne;simp at hne
     ·rename_i hc;rw[if_neg hc] at hne
      split
      ·rename_i hc;rw[if_pos hc] at hne;simp at hne
      ·exact hb (m:={ m with sz_:=m.sz_+1 }) h rfl
theorem xnb (X:QW)(fuel:Int):∀ d:Nat,xh6 (xa4 (xcX X fuel) d)
 | 0=>xih 0 fun h _=>h.r _ _
 | d+1=>xih (d+1) fun {m f} h hf=>xnC (xnb X fuel d) d (xf4 f) h hf
abbrev Rp.E (p:Rp):Env RSt:=xcX p.X p.fuel
def xcT (p:Rp)(T:Nat->Nat)(w:World)(mb:Nat)(deep:Int)(K:Nat)(r:Mc RSt × QV × Int)(e:Ending)(w':World):Prop:=
 e=.returned (VV r.2.1)/\(∃ T' hv sv ov,Ext T T' w/\RMac p T' w' mb r.1 deep r.2.2 hv sv ov)/\Kp (All K) T w w'
def xrD (p:Rp)(d:Nat):Prop:=
 ∀ (K:Nat) (T:Nat->Nat) (w:World) (mb:Nat) (m:Mc RSt) (hv sv ov:Value) (c n:Int) (self:QV) (args:List QV) (av:Value) (mt:QM),5<=K->RMac p T w mb m (20-(d:Int)) 0 hv sv ov->MIn p.E m->xpk m->xax m.heap.length self=0->VsOk m.heap.length args->xaO (Fx T w) w av args->xaI p.X.cz c n=some mt->
  Calls Tryz.prog 27 #[.pointer (some ⟨mb,0,none⟩),.int .i64 c,.int .i64 n,VV self,av] w fun e w'=>xcT p T w mb (20-(d:Int)) K (xa4 p.E d m c n self args) e w'
structure Rx (p:Rp):Prop where
 right:xaH p.X=0
 fuel:0<=p.fuel/\p.fuel<=400
theorem Rx.ok {p:Rp}(h:Rx p):EOk p.E:=xnW h.right _ _
structure BdR (p:Rp)(d:Nat)(T:Nat->Nat)(w:World)(mb K:Nat)(R:Mc RSt × QV × Int)(av kv:Value)(gk:Nat)(at':Value)(T1:Nat->Nat)(m:Mc RSt)(f:Fr)(err:Int)(wr:World):Prop where
 ext:Ext T T1 w
 kp:Kp (All K) T w wr
 mac:∃ hv sv ov,RMac p T1 wr mb m (20-(d:Int)) err hv sv ov
 res:wr.heap[w.heap.size+2]?=some (.cells #[.int .i64 0,.int .i64 0] 27 (0,0))
 tres:T1 (w.heap.size+2)=4
 pos:5<=K
 run:err=0->∃ st,RF T1 K wr w.heap.size f av kv st
 min:err=0->MIn p.E m/\Few m/\FOk p.X.cz m.heap.length f/\PlOk f/\muE m f<=gk/\xb7 (xa4 p.E d) p.E d gk m f=R/\at'=.int .i64 f.pc
 bad:err≠0->R=(m,xaU,err)
section
variable {p:Rp} {d:Nat} {T T1 T2:Nat->Nat} {w wr w2:World} {mb K:Nat} {R:Mc RSt × QV × Int} {av kv:Value} {gk:Nat} {at' at2:Value} {m:Mc RSt} {f:Fr}
theorem BdR.next {G' k:Nat}{x:QI}(hX:Rx p)(hR:BdR p d T w mb K R av kv gk at' T1 m f 0 wr)(hg:gk=G'+1)(hx:NxOk f k x)(h17:x.op≠17){r:Mc RSt × Fr × Int}(hr:xaj (xa4 p.E d) p.E d m { f with pc:=f.pc+1 } f.pc x=r)
  (hE:Ext T1 T2 wr) (hK:Kp (All K) T1 wr w2) {hv sv ov:Value} (hM:RMac p T2 w2 mb r.1 (20-(d:Int)) r.2.2 hv sv ov) (hF:r.2.2=0->∃ st,RF T2 K w2 w.heap.size r.2.1 av kv st) (ha:r.2.2=0->at2=.int .i64 r.2.1.pc) :
  BdR p d T w mb K R av kv G' at2 T2 r.1 r.2.1 r.2.2 w2:=by
 obtain⟨hI,hFew,hFo,hPl,hmu,hval,-⟩:=hR.min rfl;have hp:=hR.pos;have hpc:=hx.pc;have hlt:=hx.lt;have hcode:=hFo.code f.code[k] (List.getElem_mem hlt);have hxk:f.code[k]=x:=by have:=hx.here;rw[List.getElem?_eq_getElem hlt] at this;cases this;rfl
 rw[hxk] at hcode;have hst:=xjj hX.ok (xl9 hX.ok d) d hI.heap (f:={ f with pc:=f.pc+1 }) ⟨hFo.self,hFo.args,hFo.temps,hFo.stack,hFo.code,hFo.plain⟩ f.pc hcode.1 hcode.2
 have hle:=xjF (xnc p.E d) d hI.sz_.2 { f with pc:=f.pc+1 } f.pc x
 have htu:=xc9 (xbK p.E d) p.E d m { f with pc:=f.pc+1 } f.pc x
 have hfew:=xkE (X:=p.X) (fuel:=p.fuel) (xnb p.X p.fuel d) d hFew (f:={ f with pc:=f.pc+1 }) hPl.fast f.pc x
 have hV:R=if r.2.2≠0 then (r.1,xaU,r.2.2) else xb7 (xa4 p.E d) p.E d G' r.1 r.2.1:=by
  rw[← hval,hg]
  conv=>lhs;unfold xb7
  rw[hpc,if_neg (by omega)]
  simp only[Int.toNat_natCast,hx.here];rw[if_neg h17,← hpc,hr]
 rw[hr] at hst hle htu hfew;refine⟨hR.ext.trans hR.kp.size hE,hR.kp.trans hR.ext hK,⟨_,_,_,hM⟩,hK.held hR.res (by rw[hR.tres];unfold All;omega),by rw[hE _ (xal hR.res)];exact hR.tres,hp,hF,fun h0=>?_,fun h0=>by rw[hV,if_pos h0]⟩
 have h0':(xaj (xa4 p.E d) p.E d m { f with pc:=f.pc+1 } f.pc x).2.2=0:=by rw[hr];exact h0
 have ht:=xl5 (xp5 p.E d) d hI.tz.2 (f:={ f with pc:=f.pc+1 }) h0'
 have hpl:=xhN hPl hx h17 h0';have hmu2:=xgc (xbK p.E d) (E:=p.E) (d:=d) hI.tz.1 (f:=f) (by omega) (by omega) h0'
 rw[hr] at ht hpl hmu2;refine⟨⟨hst.1.heap,⟨by have:=hI.sz_;omega,hle.1⟩,⟨by have:=hI.tz;omega,ht⟩⟩,hfew.1 h0,hst.2 h0,hpl,by omega,?_,ha h0⟩
 rw[hV,if_neg (by simpa using h0)]
end
theorem xgM {w:World}(T ty e:TypeId)(z:Value)(sz bytes:Nat)(hT:Tryz.prog.underlying T=some (.slice e))(hI:(Tryz.prog.info? e).map (fun i=>(i.zero,i.size,i.bytes))=some (some z,sz,bytes))(hzs:z.cells.size=sz)(hsz:0<sz)
  (base n:Nat) (v:Value) (xs:List Value) (hown:ownsAt w base e sz v n xs) (Bb:Nat) (news:List Value) (hl:news.length=2*sz) (hX:w.heap[Bb]?=some (.cells news.toArray e (0,0))) (h1:∀ u∈news,u.oneCell'=true) (h63:n+2<=maxLen) (hby:(n+2)*bytes<=140737488355328) (hbase:base<=w.heap.size) :
  ∃ v' w',(Builtin.append_ #[T,T] ty #[v,.slice (some ⟨Bb,0,none⟩) 2 2]).run Tryz.prog w=.ok v' w'/\ownsAt w' base e sz v' (n+2) (xs++news)/\(v'.ownBlock=v.ownBlock\/∃ g,v'.ownBlock=some g/\w.heap.size<=g)/\Below base w w'/\(∀ b,b<w.heap.size->some b≠v.ownBlock->w'.heap[b]?=w.heap[b]?):=by
 obtain⟨i0,hi,hz0,hz1,hz2⟩:=xa8 hI;have hnews:∀ j u,news[j]?=some u->w.cell? ((⟨Bb,0,none⟩:Addr).add j)=some u:=fun j u hu=>by rw[Addr.add_lit,Nat.zero_add,qzB hX];simpa using hu
 obtain⟨hxl,⟨rfl,rfl⟩ | ⟨g,o,cap,cur,rfl,h3,h4,h5,h6,h7,h8⟩⟩:=id hown
 ·obtain⟨v',w',hrun,r1,r2,_⟩:=run_append_own (P:=Tryz.prog) w w.heap.size T ty e i0 z sz bytes hT hi hz0 hz1 hz2 hzs hsz (.slice none 0 0) 0 [] (World.ownsRow_nil w _ e sz) ⟨Bb,0,none⟩ 2 2 news (by omega) hnews h1 h63 hby (qzC _)
  have hxs:xs=[]:=List.eq_nil_of_length_eq_zero (by simpa using hxl)
  subst hxs;refine⟨v',w',hrun,xcK (by simpa using r1) hbase,Or.inr ?_,?_,fun b hb hne=>r2.block b hb hne⟩
  ·obtain⟨-,h | ⟨g,c,cur,e,h3,h4,-⟩⟩:=r1
   ·omega
   ·exact⟨g,by rw[e];rfl,h3⟩
  ·exact (qzL _ _).grown r2 hbase fun k hk=>by cases hk
 ·by_cases hr:n+2<=cap
  ·have hcs:cur.toList.length=cur.size:=by simp
   have hon:o+n*sz+news.length<=cur.size:=by
    have:(n+2)*sz<=cap*sz:=Nat.mul_le_mul_right _ hr;rw[Nat.add_mul] at this
    omega
   have hrun:=run_append_room_cells (P:=Tryz.prog) w T ty e i0 hT hi g o n cap ⟨Bb,0,none⟩ 2 2 news (by rw[hz1];omega) hnews h1 hr (fun j hj=>by rw[hz1,qzB h4];simp;omega) (fun j hj=>by unfold World.frozen?;simp[h4])
   rw[hz1] at hrun;have hrow:=xcQ news (o+n*sz) w cur h4 hon;refine⟨_,_,hrun,⟨by rw[List.length_append,hxl,hl,Nat.add_mul],Or.inr ⟨g,o,cap,_,rfl,h3,hrow,hr,h6,?_,?_⟩⟩,Or.inl rfl,?_,fun b hb hne=>xa0 (fun e=>hne (by rw[e];rfl)) _ _ _⟩
   ·simp
    omega
   ·rw[← h8]
    apply List.ext_getElem?
    intro i;simp only[List.getElem?_take,List.getElem?_drop,List.getElem?_append,List.length_append,List.length_take,List.length_drop,hcs];have e1:min (o+n*sz) cur.size=o+n*sz:=by omega
    have e2:min (n*sz) (cur.size-o)=n*sz:=by omega
    rw[e1,e2];have e3:(n+2)*sz=n*sz+2*sz:=by rw[Nat.add_mul]
    rw[e3]
    by_cases g1:i<n*sz
    ·simp[g1,show i<n*sz+2*sz by omega,show o+i<o+n*sz by omega,show o+i<o+n*sz+news.length by omega]
    ·by_cases g2:i<n*sz+2*sz
     ·simp[g1,g2,show ¬ (o+i<o+n*sz) by omega,show o+i<o+n*sz+news.length by omega,show o+i-(o+n*sz)=i-n*sz by omega]
     ·simp[g1,g2]
      omega
   ·refine⟨?_,?_,?_,?_,fun k hk=>xa0 (by omega) _ _ _⟩
    ·exact (xbk _ _ _ _).os
    ·exact (xbk _ _ _ _).tape
    ·exact (xbk _ _ _ _).output
    ·rw[xbJ];exact qzC _
  ·obtain⟨v',w',hrun,r1,r2⟩:=run_append_arg_grows (P:=Tryz.prog) w T ty e i0 z sz bytes hT hi hz0 hz1 hz2 hzs hsz ⟨g,o,none⟩ n cap xs hxl (fun j u hu=>by
    rw[Addr.add_lit,qzB h4];rw[← h8,List.getElem?_take] at hu
    split at hu
    ·rw[List.getElem?_drop] at hu;simpa using hu
    ·cases hu) ⟨Bb,0,none⟩ 2 2 news (by omega) hnews (by omega) h63 hby
   refine⟨v',w',hrun,xcK r1 hbase,Or.inr ?_,?_,fun b hb hne=>r2.block b hb (by simp)⟩
   ·obtain⟨-,h | ⟨g,c,cur,e,h3,h4,-⟩⟩:=r1
    ·omega
    ·exact⟨g,by rw[e];rfl,h3⟩
   ·exact (qzL _ _).grown r2 hbase fun k hk=>by cases hk
theorem xfg {ops:Array Oper}{rest:List Oper}{o:Oper}{a:Act}{w:World}{Q:Exit->Act->World->Prop}(hgd:o.guard=none)(s x:Operand)(T e:TypeId)(z:Value)(sz bytes:Nat)
  (hop:o.op=Op.call { callee:=Callee.builtin Builtin.append,args:=#[s,x],argTypes:=#[T,T] }) (hT:Tryz.prog.underlying T=some (.slice e)) (hI:(Tryz.prog.info? e).map (fun i=>(i.zero,i.size,i.bytes))=some (some z,sz,bytes)) (hzs:z.cells.size=sz) (hsz:0<sz)
  (base n:Nat) (v:Value) (xs:List Value) (hs:a.eval s=v) (hown:ownsAt w base e sz v n xs) (Bb:Nat) (hx:a.eval x=.slice (some ⟨Bb,0,none⟩) 2 2) (news:List Value) (hl:news.length=2*sz) (hX:w.heap[Bb]?=some (.cells news.toArray e (0,0))) (h1:∀ u∈news,u.oneCell'=true) (h63:n+2<=maxLen) (hby:(n+2)*bytes<=140737488355328) (hbase:base<=w.heap.size)
  (hK:∀ a' cap' w',ownsAt w' base e sz (.slice a' (n+2) cap') (n+2) (xs++news)->((Value.slice a' (n+2) cap').ownBlock=v.ownBlock\/∃ g,(Value.slice a' (n+2) cap').ownBlock=some g/\w.heap.size<=g)->Below base w w'->(∀ b,b<w.heap.size->some b≠v.ownBlock->w'.heap[b]?=w.heap[b]?)->wpList Tryz.prog ops Q rest (a.put o.dst (.slice a' (n+2) cap')) w') :
  wpList Tryz.prog ops Q (o :: rest) a w:=by
 refine wpList_plain hgd fun K hKK=>?_
 obtain⟨v',w',hrun,r1,r2,r3,r4⟩:=xgM T o.type e z sz bytes hT hI hzs hsz base n v xs hown Bb news hl hX h1 h63 hby hbase;obtain⟨a',cap',rfl,-⟩:=r1.form;unfold Oper.wp
 simp[execOp,hop,resolve,invoke,builtin,hs,hx,hrun,Result.andThen]
 exact hKK _ _ (hK a' cap' w' r1 r2 r3 r4)
def xoZ (T:Nat->Nat)(B K:Nat):Nat->Nat:=fun b=>if b<B then T b else if b=B+3 then K+1 else if b=B+4 then K else 4
section
variable {p:Rp} {d:Nat} {T T1 T2:Nat->Nat} {w wr w2:World} {mb K:Nat} {R:Mc RSt × QV × Int} {av kv:Value} {gk:Nat} {at' at2:Value} {m:Mc RSt} {f:Fr}
theorem xlu {hv sv ov:Value}(h:RMac p T w mb m (20-(d:Int)) 0 hv sv ov)(hK:5<=K)(hI:MIn p.E m)(hW:Few m)(hFo:FOk p.X.cz m.heap.length f)(hPl:PlOk f)(hA:xaO (Fx T w) w av f.args)(hC:xaR (Fx T w) w kv f.meth.code)(hst:f.stack=[])(hpc:f.pc=0)(hR:xb7 (xa4 p.E d) p.E d (xf4 f) m f=R){U:World}(hb:Below w.heap.size w U)
  (u0:U.heap[w.heap.size]?=some (.cells #[.string f.meth.name,.int .i64 f.meth.args,.int .i64 f.meth.temps,.int .i64 f.meth.prim,kv] 59 (0,0))) (u1:U.heap[w.heap.size+1]?=some (.cells #[.int .i64 f.self.k,.int .i64 f.self.n] 27 (0,0))) (u2:U.heap[w.heap.size+2]?=some (.cells #[.int .i64 0,.int .i64 0] 27 (0,0)))
  (u3:U.heap[w.heap.size+3]?=some (.cells (xam f.temps).toArray 27 (0,0))) (u4:U.heap[w.heap.size+4]?=some (.cells #[.slice none 0 0] 28 (0,0))):BdR p d T w mb K R av kv (xf4 f) (.int .i64 0) (xoZ T w.heap.size K) m f 0 U:=by
 have hE:Ext T (xoZ T w.heap.size K) w:=fun b hb=>by unfold xoZ;rw[if_pos hb]
 have hk:Kp (fun _=>False) T w U:=Kp.of_below hb
 refine⟨hE,Kp.of_below hb,⟨_,_,_,h.keep hE hk id id id id⟩,u2,?_,hK,fun _=>⟨.slice none 0 0,u0,u1,u3,u4,?_,?_,?_,?_,?_,?_,?_,hA.fx xa1 hE hk id,by rw[hPl.code];exact hC.fx xa2 hE hk id,hK⟩,fun _=>⟨hI,hW,hFo,hPl,xg8 hI.tz.1,hR,by rw[hpc]⟩,fun h=>absurd rfl h⟩
 ·unfold xoZ;rw[if_neg (by omega),if_neg (by omega),if_neg (by omega)]
 ·unfold xoZ;rw[if_neg (by omega),if_neg (by omega),if_neg (by omega)]
 ·unfold xoZ;rw[if_neg (by omega),if_neg (by omega),if_neg (by omega)]
 ·unfold xoZ;rw[if_neg (by omega),if_pos rfl]
 ·unfold xoZ;rw[if_neg (by omega),if_neg (by omega),if_pos rfl]
 ·rw[hst];exact⟨rfl,Or.inl ⟨rfl,rfl⟩⟩
 ·intro g hg;cases hg
 ·rw[hst];simp
theorem xrr (w:World)(o0 o1 o2 o3 o4:Obj):((((((w.alloc o0).alloc o1).alloc o2).alloc o3).alloc o4).heap[w.heap.size]?=some o0/\(((((w.alloc o0).alloc o1).alloc o2).alloc o3).alloc o4).heap[w.heap.size+1]?=some o1/\(((((w.alloc o0).alloc o1).alloc o2).alloc o3).alloc o4).heap[w.heap.size+2]?=some o2)/\(((((w.alloc o0).alloc o1).alloc o2).alloc o3).alloc o4).heap[w.heap.size+3]?=some o3/\(((((w.alloc o0).alloc o1).alloc o2).alloc o3).alloc o4).heap[w.heap.size+4]?=some o4:=by
 have s1:(w.alloc o0).heap.size=w.heap.size+1:=by simp
 have s2:((w.alloc o0).alloc o1).heap.size=w.heap.size+2:=by simp
 have s3:(((w.alloc o0).alloc o1).alloc o2).heap.size=w.heap.size+3:=by simp
 have s4:((((w.alloc o0).alloc o1).alloc o2).alloc o3).heap.size=w.heap.size+4:=by simp
 have h0:=qzJ w o0;have h1:=qzJ (w.alloc o0) o1;have h2:=qzJ ((w.alloc o0).alloc o1) o2;have h3:=qzJ (((w.alloc o0).alloc o1).alloc o2) o3;have h4:=qzJ ((((w.alloc o0).alloc o1).alloc o2).alloc o3) o4;rw[s1] at h1;rw[s2] at h2;rw[s3] at h3;rw[s4] at h4
 exact⟨⟨xad (xad (xad (xad h0 (xak _ _)) (xak _ _)) (xak _ _)) (xak _ _),xad (xad (xad h1 (xak _ _)) (xak _ _)) (xak _ _),xad (xad h2 (xak _ _)) (xak _ _)⟩,xad h3 (xak _ _),h4⟩
structure InB (W:World)(b:Nat)(x:QI):Prop where
 x0:W.cell? ⟨b,0,none⟩=some (.int .i64 x.op)
 x1:W.cell? ⟨b,1,none⟩=some (.int .i64 x.a)
 x4:W.cell? ⟨b,4,none⟩=some (.string x.name)
theorem xnn (w:World)(x:QI):InB (w.alloc (.cells #[.int .i64 x.op,.int .i64 x.a,.int .i64 x.b,.int .i64 x.c,.string x.name] 57)) w.heap.size x:=⟨xaa _ _ _ _ rfl 0,xaa _ _ _ _ rfl 1,xaa _ _ _ _ rfl 4⟩
theorem InB.later {W W':World}{b:Nat}{x:QI}(h:InB W b x)(hb:Below W.heap.size W W'):InB W' b x:=⟨qzA hb h.x0,qzA hb h.x1,qzA hb h.x4⟩
abbrev xj9 (c:Int)(n1 n2 n3:Nat)(f:Fr):Prop:=f.cls=c/\f.args.length=n1/\f.temps.length=n2/\f.code.length=n3
abbrev BdX (p:Rp)(d:Nat)(T:Nat->Nat)(w:World)(mb K:Nat)(R:Mc RSt × QV × Int)(av kv:Value)(c:Int)(n1 n2 n3:Nat)(gk:Nat)(at':Value)(wr:World):Prop:=
 ∃ T1 m f err,BdR p d T w mb K R av kv gk at' T1 m f err wr/\(err=0->xj9 c n1 n2 n3 f)
theorem xd0 {S:Nat->Prop}{U:World}(k:Kp S T1 wr U)(h:∀ t,S t->t=1\/t=2\/t=3\/K<=t):Kp (All K) T1 wr U:=k.mono fun t ht=>h t ht
variable {c:Int} {n1 n2 n3 G' k:Nat} {x:QI} {hv sv ov st st':Value} {U w':World}
theorem xcW (hX:Rx p)(hR:BdR p d T w mb K R av kv gk at' T1 m f 0 wr)(hg:gk=G'+1)(hx:NxOk f k x){v:QV}(hpu:xao m.heap { f with pc:=f.pc+1 } x=some v)(hM:RMac p T1 wr mb m (20-(d:Int)) 0 hv sv ov)(hF:RF T1 K wr w.heap.size f av kv st)(hL:xj9 c n1 n2 n3 f)(hU:Below wr.heap.size wr U)
  (r1:ownsAt w' 0 27 2 st' (f.stack.length+1) (xam f.stack++[.int .i64 v.k,.int .i64 v.n])) (r2:st'.ownBlock=st.ownBlock\/∃ g,st'.ownBlock=some g/\U.heap.size<=g) (r3:Below 0 U w') (r4:∀ b,b<U.heap.size->some b≠st.ownBlock->w'.heap[b]?=U.heap[b]?) :
  BdX p d T w mb K R av kv c n1 n2 n3 G' (.int .i64 ((k:Int)+1)) (w'.setCell ⟨w.heap.size+4,0,none⟩ st'):=by
 have hp:=hF.pos;have hfew:=hx.few;obtain⟨⟨T2,e1,e2⟩,e3⟩:=hF.pushed (vs:=[v]) hU (by simp;omega) (by simpa [xam] using r1) r2 r3 r4
 have ho:=xfb hpu;have hr:xaj (xa4 p.E d) p.E d m { f with pc:=f.pc+1 } f.pc x=(m,({ f with pc:=f.pc+1 }:Fr).push v,0):=by unfold xaj;rw[hpu]
 exact⟨_,_,_,_,hR.next hX hg hx (by omega) hr e1 (xd0 e3 fun t ht=>by omega) (hM.keep e1 e3 (by omega) (by omega) (by omega) (by omega)) (fun _=>⟨_,e2.at _⟩) (fun _=>by show _=Value.int .i64 (f.pc+1);rw[hx.pc]),fun _=>hL⟩
theorem xb8 (hF:RF T1 K wr w.heap.size f av kv st)(hU:Below wr.heap.size wr U)(r4:∀ b,b<U.heap.size->some b≠st.ownBlock->w'.heap[b]?=U.heap[b]?):w'.cell? ⟨w.heap.size+4,0,none⟩=some st/\∀ o,w'.frozen? ⟨w.heap.size+4,o,none⟩=false:=by
 have hlt:=xal hF.sb;have hp:=hF.pos;have hnb:some (w.heap.size+4)≠st.ownBlock:=fun e=>by have:=hF.stag _ e.symm;rw[hF.t4] at this;omega
 have hbx:w'.heap[w.heap.size+4]?=some (.cells #[st] 28 (0,0)):=by rw[r4 _ (qzE hlt hU.size) hnb,hU.block _ hlt];exact hF.sb
 exact⟨by rw[qzB hbx];rfl,xap hbx⟩
theorem xqv (hX:Rx p)(hR:BdR p d T w mb K R av kv gk at' T1 m f 0 wr)(hg:gk=G'+1)(hx:NxOk f k x)(hop:x.op=9\/False)(hM:RMac p T1 wr mb m (20-(d:Int)) 0 hv sv ov)(hL:xj9 c n1 n2 n3 f)(hU:Below wr.heap.size wr U)(hF:RF T1 K w' w.heap.size f.pop av kv st')(hK:Kp (fun t=>t=K\/t=K+2) T1 U w') :
  BdX p d T w mb K R av kv c n1 n2 n3 G' (.int .i64 ((k:Int)+1)) w':=by
 have hp:=hR.pos;have ho:x.op=9:=hop.elim id False.elim
 have hr:xaj (xa4 p.E d) p.E d m { f with pc:=f.pc+1 } f.pc x=(m,({ f with pc:=f.pc+1 }:Fr).pop,0):=by
  have hpu:xao m.heap { f with pc:=f.pc+1 } x=none:=by unfold xao;simp[ho]
  unfold xaj;rw[hpu];simp only[];rw[if_pos ho]
 have k2:Kp (fun t=>t=K\/t=K+2) T1 wr w':=(Kp.of_below hU).trans (.refl _ _) hK
 exact⟨_,_,_,_,hR.next hX hg hx (by omega) hr (.refl _ _) (xd0 k2 fun t ht=>by omega) (hM.keep (.refl _ _) k2 (by omega) (by omega) (by omega) (by omega)) (fun _=>⟨_,hF.at _⟩) (fun _=>by show _=Value.int .i64 (f.pc+1);rw[hx.pc]),fun _=>hL⟩
structure PcS (p:Rp)(T1:Nat->Nat)(K:Nat)(w wr:World)(mb:Nat)(m:Mc RSt)(d:Nat)(f:Fr)(hv sv ov av kv st:Value)(W:World):Prop where
 mac:RMac p T1 W mb m (20-(d:Int)) 0 hv sv ov
 fr:RF T1 K W w.heap.size f av kv st
 bel:Below wr.heap.size wr W
theorem pcS {a b:Addr}{y z:Value}{W W':World}(h1:W.cell? a=some y)(h2:W.cell? b=some z)(h:PcS p T1 K w wr mb m d f hv sv ov av kv st W)(hb:Below W.heap.size W W'):W'.cell? a=some y/\W'.cell? b=some z/\PcS p T1 K w wr mb m d f hv sv ov av kv st W':=⟨qzA hb h1,qzA hb h2,h.mac.later hb,h.fr.later hb,xaf h.bel hb⟩
theorem pcL {a b:Addr}{y z:Value}{W W':World}(h:W.cell? a=some y/\W.cell? b=some z/\PcS p T1 K w wr mb m d f hv sv ov av kv st W)(hb:Below W.heap.size W W'):W'.cell? a=some y/\W'.cell? b=some z/\PcS p T1 K w wr mb m d f hv sv ov av kv st W':=pcS h.1 h.2.1 h.2.2 hb
theorem BdR.set_res (hR:BdR p d T w mb K R av kv gk at' T1 m f 0 wr){T2:Nat->Nat}{W2:World}(hE:Ext T1 T2 wr)(hK:Kp (All K) T1 wr W2)(hM:RMac p T2 W2 mb m (20-(d:Int)) 0 hv sv ov){v:QV}(hV:R=(m,v,0)):xcT p T w mb (20-(d:Int)) K R (.returned (VV v)) ((W2.setCell ⟨w.heap.size+2,0,none⟩ (.int .i64 v.k)).setCell ⟨w.heap.size+2,1,none⟩ (.int .i64 v.n)):=by
 have hp:=hR.pos;have ht:T2 (w.heap.size+2)=4:=by rw[hE _ (xal hR.res)];exact hR.tres
 have k4:Kp (fun t=>t=4) T2 W2 ((W2.setCell ⟨w.heap.size+2,0,none⟩ (.int .i64 v.k)).setCell ⟨w.heap.size+2,1,none⟩ (.int .i64 v.n)):=((Kp.refl (fun t=>t=4) T2 W2).set (b:=w.heap.size+2) (fun _=>ht) _ _).set (b:=w.heap.size+2) (fun _=>ht) _ _
 have k0:Kp (All K) T w W2:=hR.kp.trans hR.ext hK;subst hV;refine⟨rfl,⟨T2,_,_,_,hR.ext.trans hR.kp.size hE,hM.keep (.refl _ _) k4 (by omega) (by omega) (by omega) (by omega)⟩,(k0.set (fun h=>by omega) _ _).set (fun h=>by omega) _ _⟩
theorem xqt (hR:BdR p d T w mb K R av kv gk at' T1 m f 0 wr)(hg:gk=G'+1)(hx:NxOk f k x)(hop:x.op=17):R=(m,f.top,0):=by
 obtain⟨-,-,-,-,-,hval,-⟩:=hR.min rfl;rw[← hval,hg]
 conv=>lhs;unfold xb7
 rw[hx.pc,if_neg (by omega)]
 simp only[Int.toNat_natCast,hx.here];rw[if_pos hop]
theorem xq9 (hR:BdR p d T w mb K R av kv gk at' T1 m f 0 wr){W2:World}(hK:Kp (All K) T1 wr W2):(W2.cell? ⟨w.heap.size+2,0,none⟩=some (.int .i64 0)/\W2.cell? ⟨w.heap.size+2,1,none⟩=some (.int .i64 0))/\∀ o,W2.frozen? ⟨w.heap.size+2,o,none⟩=false:=by
 have hp:=hR.pos;have hb:=hK.held hR.res (by rw[hR.tres];unfold All;omega)
 exact⟨⟨by rw[qzB hb];rfl,by rw[qzB hb];rfl⟩,xap hb⟩
theorem xbX (ent:Ent RSt)(E:Env RSt)(hop:9<=x.op):xaj ent E d m { f with pc:=f.pc+1 } f.pc x=xcG ent E d m { f with pc:=f.pc+1 } f.pc x:=by
 have hpu:xao m.heap { f with pc:=f.pc+1 } x=none:=by
  unfold xao;rw[if_neg (by omega),if_neg (by omega),if_neg (by omega),if_neg (by omega),if_neg (by omega),if_neg (by omega),if_neg (by omega),if_neg (by omega)]
 unfold xaj xcG;rw[hpu]
theorem xcz (hX:Rx p)(hR:BdR p d T w mb K R av kv gk at' T1 m f 0 wr)(hg:gk=G'+1)(hx:NxOk f k x)(h17:x.op≠17){r:Mc RSt × Fr × Int}(hr:xaj (xa4 p.E d) p.E d m { f with pc:=f.pc+1 } f.pc x=r){T2:Nat->Nat}{W2:World}(hE:Ext T1 T2 wr)(hK:Kp (All K) T1 wr W2)(hM:RMac p T2 W2 mb r.1 (20-(d:Int)) r.2.2 hv sv ov)(hF:r.2.2=0->∃ st,RF T2 K W2 w.heap.size r.2.1 av kv st)(hpc:r.2.2=0->r.2.1.pc=(k:Int)+1)(hL:r.2.2=0->xj9 c n1 n2 n3 r.2.1) :
  BdX p d T w mb K R av kv c n1 n2 n3 G' (.int .i64 ((k:Int)+1)) W2:=
 ⟨_,_,_,_,hR.next hX hg hx h17 hr hE hK hM hF (fun h=>by rw[hpc h]),hL⟩
end
theorem vf46 (args:Array Value)(w:World):(callFunc 70 args).run Tryz.prog w=.ok (.enter 70 args) w:=xdN Tryz.func70 (by kernel_rfl) (by kernel_rfl) args w
theorem vf48 (args:Array Value)(w:World):(callFunc 72 args).run Tryz.prog w=.ok (.enter 72 args) w:=xdN Tryz.func72 (by kernel_rfl) (by kernel_rfl) args w
theorem vf47 (args:Array Value)(w:World):(callFunc 71 args).run Tryz.prog w=.ok (.enter 71 args) w:=xdN Tryz.func71 (by kernel_rfl) (by kernel_rfl) args w
theorem vf49 (args:Array Value)(w:World):(callFunc 73 args).run Tryz.prog w=.ok (.enter 73 args) w:=xdN Tryz.func73 (by kernel_rfl) (by kernel_rfl) args w
theorem vf17 (args:Array Value)(w:World):(callFunc 16 args).run Tryz.prog w=.ok (.enter 16 args) w:=xdN Tryz.func16 (by kernel_rfl) (by kernel_rfl) args w
theorem vf22 (args:Array Value)(w:World):(callFunc 25 args).run Tryz.prog w=.ok (.enter 25 args) w:=xdN Tryz.func25 (by kernel_rfl) (by kernel_rfl) args w
theorem vf23 (args:Array Value)(w:World):(callFunc 26 args).run Tryz.prog w=.ok (.enter 26 args) w:=xdN Tryz.func26 (by kernel_rfl) (by kernel_rfl) args w
theorem vf24 (args:Array Value)(w:World):(callFunc 27 args).run Tryz.prog w=.ok (.enter 27 args) w:=xdN Tryz.func27 (by kernel_rfl) (by kernel_rfl) args w
theorem xgL {P Q:Nat->Prop}(X:QW)(s:QV)(name:ByteArray)(args:List QV)(fuel:Int)(cv hv av:Value)(w:World)(hcv:∃ a n c,cv=.slice a n c)(hH:xaD P w hv X.heap)(hA:xaO Q w av args)(hn:name.size<=140737488351232):Calls Tryz.prog 24 #[WV cv hv X.ez,ClV s name av,.int .i64 fuel] w fun e w'=>e=.returned (.int .i64 (xar X s name args fuel))/\Below w.heap.size w w':=by
 have hR:=xjk w cv hv X.ez s name av;obtain⟨ah,ch,rfl,-⟩:=id hH;obtain⟨aa,ca,rfl,hal,hac,-,hrow⟩:=id hA;obtain⟨ac,nc,cc,rfl⟩:=hcv;unfold maxLen at hac;go_enter Tryz.func24,Tryz.ntmps24
 go_upto_region 1 with (fail)
 generalize ((w.alloc (.cells #[.slice ac nc cc,.slice ah X.heap.length ch,.int .i64 X.ez] 25)).alloc (.cells #[.int .i64 s.k,.int .i64 s.n,.string name,.slice aa args.length ca] 30))=W at *;obtain⟨-,w0,w1,w2,c0,c1,c2,c3⟩:=id hR;go_wp2_with fail;refine (xgT name _ hn).mono ?_;rintro e w1' ⟨rfl,hw1⟩;subst hw1;have hb1:=qzL w1'.heap.size w1';have hR1:=hR.later hb1;clear w0 w1 w2 c0 c1 c2 c3 hR hb1;obtain⟨-,w0,w1,w2,c0,c1,c2,c3⟩:=id hR1
 cases hnb:xbr name with
 | false=>
  have HE:Hid (xar X s name args fuel=7):=by show _=_;unfold xar;rw[if_pos hnb]
  go_wp2
  go_ret
  exact⟨xan HE.out.symm,hR1.bel⟩
 | true=>
  by_cases h4:4<args.length
  ·have HE:Hid (xar X s name args fuel=5):=by show _=_;unfold xar;rw[if_neg (by rw[hnb];simp),if_pos h4]
   have h4':(4:Int)<(args.length:Int):=by omega
   go_wp2
   go_ret
   exact⟨xan HE.out.symm,hR1.bel⟩
  have h4':¬ ((4:Int)<(args.length:Int)):=by omega
  by_cases hf:fuel<0
  ·have HE:Hid (xar X s name args fuel=3):=by show _=_;unfold xar;rw[if_neg (by rw[hnb];simp),if_neg h4,if_pos (Or.inl hf)]
   have hf':decide (fuel<0)=true:=by simpa using hf
   go_wp2
   go_ret
   exact⟨xan HE.out.symm,hR1.bel⟩
  have hf':decide (fuel<0)=false:=by simpa using hf
  by_cases hg:400<fuel
  ·have HE:Hid (xar X s name args fuel=3):=by show _=_;unfold xar;rw[if_neg (by rw[hnb];simp),if_neg h4,if_pos (Or.inr hg)]
   have hg':decide (400<fuel)=true:=by simpa using hg
   go_wp2
   go_ret
   exact⟨xan HE.out.symm,hR1.bel⟩
  have hg':decide (400<fuel)=false:=by simpa using hg
  have HE:Hid (xar X s name args fuel=if xax X.heap.length s≠0 then xax X.heap.length s else xbo (fun _ v=>xax X.heap.length v) 0 args):=by show _=_;unfold xar;rw[if_neg (by rw[hnb];simp),if_neg h4,if_neg (by omega)]
  clear hnb hf hg;have hvw:=fun w=>xfa s (X.heap.length:Int) w
  generalize xax X.heap.length s=ws at *;go_wp2_with fail;refine (hvw _).mono ?_;rintro e w2' ⟨rfl,hb2⟩;have hR2:=hR1.later hb2;clear w0 w1 w2 c0 c1 c2 c3 hR1 hb2 hvw;obtain⟨-,w0,w1,w2,c0,c1,c2,c3⟩:=id hR2
  by_cases hws:ws=0
  ·have hws':(ws != 0)=false:=by simpa using hws
   rw[if_neg (by simpa using hws)] at HE
   clear hws;go_wp2;clear w0 w1 w2 c0 c1 c2 c3
   go_loopg [37] args.length (fun gk c wr=>∃ j:Nat,j+gk=args.length/\c=.int .i64 j/\WcR w (.slice ac nc cc) (.slice ah X.heap.length ch) X.ez s name (.slice aa args.length ca) wr/\∀ i y,i<j->args[i]?=some y->xax X.heap.length y=0)
   case atStart=>exact⟨0,by omega,rfl,hR2,fun i y hi=>by omega⟩
   case round=>
    clear hR2;obtain⟨j,hj,rfl,hRr,hok⟩:=hrel;have HO:=hid hok;clear hok;obtain⟨-,w0,w1,w2,c0,c1,c2,c3⟩:=id hRr
    by_cases hlt:j<args.length
    ·have hx:args[j]?=some args[j]:=by simp[hlt]
     have HX:=hid hx;generalize args[j]=y at *;obtain⟨b,o,rfl,-,v0,v1⟩:=hrow j y hx;simp only[Nat.add_zero] at v0;have u0:=qzA hRr.bel v0;have u1:=qzA hRr.bel v1;clear v0 v1 hrow hx;have hj1:(j:Int)<(args.length:Int):=by omega
     have hj0:(0:Int)<=(j:Int):=by omega
     have hvw:=fun w=>xfa y (X.heap.length:Int) w
     obtain⟨wy,hwy⟩:∃ wy,wy=xax X.heap.length y:=⟨_,rfl⟩;rw[← hwy] at hvw;have HWY:=hid hwy;clear hwy;have hRa:=hRr.later (xak wr (.cells #[.int .i64 y.k,.int .i64 y.n] 27));have y0:(wr.alloc (.cells #[.int .i64 y.k,.int .i64 y.n] 27)).cell? ⟨wr.heap.size,0,none⟩=some (.int .i64 y.k):=xaa _ _ _ _ rfl 0;have y1:(wr.alloc (.cells #[.int .i64 y.k,.int .i64 y.n] 27)).cell? ⟨wr.heap.size,1,none⟩=some (.int .i64 y.n):=xaa _ _ _ _ rfl 1
     go_upto_region 13 with (fail)
     clear w0 w1 w2 c0 c1 c2 c3 u0 u1 hRr;generalize (wr.alloc (.cells #[.int .i64 y.k,.int .i64 y.n] 27))=V at *;obtain⟨-,w0,w1,w2,c0,c1,c2,c3⟩:=id hRa;go_wp2_with fail;refine (hvw _).mono ?_;rintro e w5 ⟨rfl,hb5⟩;have hR5:=hRa.later hb5;clear w0 w1 w2 c0 c1 c2 c3 hRa hb5 hvw y0 y1
     by_cases hz:wy=0
     ·have hz':(wy != 0)=false:=by simpa using hz
      go_wp2
      go_roundg (gk-1)
      case measure=>omega
      case rel=>
       refine⟨j+1,by omega,by go_num,hR5,fun i y' hi hy=>?_⟩
       by_cases hij:i=j
       ·subst hij;rw[HX.out] at hy;cases hy;rw[← HWY.out];exact hz
       ·exact HO.out i y' (by omega) hy
     ·have hz':(wy != 0)=true:=by simpa using hz
      go_wp2
      go_ret
      refine⟨xan ?_,hR5.bel⟩;have:=xdt (f:=fun _ v=>xax X.heap.length v) (k:=0) HX.out (by rw[← HWY.out];exact hz) (fun i y' hi hy=>HO.out i y' hi hy)
      rw[HE.out,this,HWY.out]
    ·obtain rfl:j=args.length:=by omega
     go_wp2
     go_ret
     refine⟨xan ?_,hRr.bel⟩;rw[HE.out,xds fun i y hy=>HO.out i y (xae hy) hy]
  ·have hws':(ws != 0)=true:=by simpa using hws
   rw[if_pos hws] at HE;go_wp2
   go_ret
   exact⟨xan HE.out.symm,hR2.bel⟩
theorem xos {hs:List QO}{v:QV}{o:QO}(hk:v.k=4)(h:xd2 hs v=some o):xas hs v=o.cls:=by
 unfold xas;rw[if_neg (by omega),if_neg (by omega),if_neg (by omega),h];rfl
theorem xmw {hs:List QO}{v:QV}(hk:v.k<0\/3<v.k)(h:xd2 hs v=none):xas hs v=0:=by
 unfold xas;rw[if_neg (by omega),if_neg (by omega),if_neg (by omega),h];rfl
theorem xg7 {P:Nat->Prop}(hs:List QO)(hv:Value)(v:QV)(w:World)(h:xaD P w hv hs):Calls Tryz.prog 26 #[hv,VV v] w fun e w'=>e=.returned (.int .i64 (xas hs v))/\Below w.heap.size w w':=by
 have hb1:=xak w (.cells #[.int .i64 v.k,.int .i64 v.n] 27);have h1:=h.later xaE hb1;have b0:(w.alloc (.cells #[.int .i64 v.k,.int .i64 v.n] 27)).cell? ⟨w.heap.size,0,none⟩=some (.int .i64 v.k):=xaa _ _ _ _ rfl 0;have b1:(w.alloc (.cells #[.int .i64 v.k,.int .i64 v.n] 27)).cell? ⟨w.heap.size,1,none⟩=some (.int .i64 v.n):=xaa _ _ _ _ rfl 1;obtain⟨a,cap,rfl,-,hcap,-,-⟩:=id h;unfold maxLen at hcap;clear h;go_enter Tryz.func26,Tryz.ntmps26
 go_upto_region 1 with (fail)
 generalize (w.alloc (.cells #[.int .i64 v.k,.int .i64 v.n] 27))=W at *
 cases hi:xdJ hs.length v with
 | true=>
  obtain⟨j,o,hj,hjl,hjo,hob⟩:=xgj hi;have hk:v.k=4:=by unfold xdJ at hi;have:=of_decide_eq_true hi;exact this.1
  have HE:=hid (xos hk hob);have hk':(v.k == 4)=true:=by simpa using hk
  rw[hj] at b1;obtain⟨a',cap',e,-,-,-,hrow⟩:=h1
  cases e
  obtain⟨b,of,rfl,-,e0,-⟩:=hrow j o hjo;simp only[Nat.add_zero] at e0;have hj1:(j:Int)<(hs.length:Int):=by omega
  have hj0:(0:Int)<=(j:Int):=by omega
  clear hj hjo hob hrow hk hi;go_wp2
  go_ret
  exact⟨xan HE.out.symm,hb1⟩
 | false=>
  have hN:=xeI hi;have hi':¬ (v.k=4/\0<=v.n/\v.n<hs.length):=by unfold xdJ at hi;exact of_decide_eq_false hi
  have HC0:=hid fun h=>xmw (hs:=hs) (v:=v) h hN
  have HC:Hid (v.k=0->xas hs v=1):=fun h=>by unfold xas;rw[if_pos h]
  have HC1:Hid (v.k=1\/v.k=2->xas hs v=2):=fun h=>by unfold xas;rw[if_neg (by omega),if_pos h]
  have HC3:Hid (v.k=3->xas hs v=3):=fun h=>by unfold xas;rw[if_neg (by omega),if_neg (by omega),if_pos h]
  clear h1 hi hN
  by_cases hk:v.k<0\/3<v.k
  ·have HE:=hid (HC0.out hk)
   by_cases h4:v.k=4
   ·have h4':(v.k == 4)=true:=by simpa using h4
    by_cases hn:0<=v.n
    ·have hn2:¬ v.n<(hs.length:Int):=by omega
     go_wp2
     go_ret
     exact⟨xan HE.out.symm,hb1⟩
    ·go_wp2
     go_ret
     exact⟨xan HE.out.symm,hb1⟩
   ·have h4':(v.k == 4)=false:=by simpa using h4
    by_cases hneg:v.k<0
    ·go_wp2
     go_ret
     exact⟨xan HE.out.symm,hb1⟩
    ·have h3:3<v.k:=by omega
     go_wp2
     go_ret
     exact⟨xan HE.out.symm,hb1⟩
  ·have h4':(v.k == 4)=false:=by simp;omega
   obtain⟨m,hm,hm4⟩:∃ m:Nat,v.k=(m:Int)/\m<4:=⟨v.k.toNat,by omega,by omega⟩
   have e1:¬ v.k<0:=by omega
   have e2:¬ 3<v.k:=by omega
   clear hk hi'
   match m,hm4 with
   | 0,_=>have hm0:v.k=0:=hm;rw[hm0] at b0 h4' e1 e2;have k0:=fun y=>qzA (xak W y) b0;have HE:=hid (HC.out hm);clear HC HC0 HC1 HC3 hm hm0;go_wp2;go_ret;exact⟨xan HE.out.symm,xaf hb1 (xak _ _)⟩
   | 1,_=>have hm0:v.k=1:=hm;rw[hm0] at b0 h4' e1 e2;have k0:=fun y=>qzA (xak W y) b0;have HE:=hid (HC1.out (Or.inl hm));clear HC HC0 HC1 HC3 hm hm0;go_wp2;go_ret;exact⟨xan HE.out.symm,xaf hb1 (xak _ _)⟩
   | 2,_=>have hm0:v.k=2:=hm;rw[hm0] at b0 h4' e1 e2;have k0:=fun y=>qzA (xak W y) b0;have HE:=hid (HC1.out (Or.inr hm));clear HC HC0 HC1 HC3 hm hm0;go_wp2;go_ret;exact⟨xan HE.out.symm,xaf hb1 (xak _ _)⟩
   | 3,_=>have hm0:v.k=3:=hm;rw[hm0] at b0 h4' e1 e2;have k0:=fun y=>qzA (xak W y) b0;have HE:=hid (HC3.out hm);clear HC HC0 HC1 HC3 hm hm0;go_wp2;go_ret;exact⟨xan HE.out.symm,xaf hb1 (xak _ _)⟩
theorem xeE (b:Bool)(w:World):Calls Tryz.prog 70 #[.bool b] w fun e w'=>e=.returned (VV ⟨if b then 2 else 1,0⟩)/\Below w.heap.size w w':=by
 go_enter Tryz.func70,Tryz.ntmps70
 cases b
 ·go_wp2;refine qzK (v:=VV ⟨1,0⟩) ?_ rfl ⟨rfl,xak _ _⟩
  simp[results,Tryz.results70,go_sem]
 ·go_wp2;refine qzK (v:=VV ⟨2,0⟩) ?_ rfl ⟨rfl,xak _ _⟩
  simp[results,Tryz.results70,go_sem]
def xh4:Code:=(Code.region 9 #[
  ⟨some 44,.binOp .eql 3 (.tmp 42) (.const (.int .i64 1)) 3,4,"ref.go:74",#[],none⟩,
  ⟨some 43,.assign (.tmp 44),4,"ref.go:74",#[⟨0,.data⟩],none⟩] false)
def sw9:Code:=(Code.cond (Operand.tmp 43) (Code.region 10 #[
  ⟨some 45,.load 28 (.tmp 12),28,"ref.go:75",#[],none⟩,
  ⟨some 46,.load 27 (.tmp 8),27,"ref.go:75",#[],none⟩,
  ⟨some 47,.buildSlice 28 1 #[(0,.tmp 46)],28,"ref.go:75",#[⟨1,.data⟩],none⟩,
  ⟨some 48,.call ⟨.builtin .append,#[.tmp 45,.tmp 47],#[28,28]⟩,28,"ref.go:75",#[⟨0,.data⟩,⟨2,.data⟩],none⟩,
  ⟨none,.store 28 (.tmp 12) (.tmp 48),0,"ref.go:75",#[⟨3,.data⟩,⟨3,.chain⟩,⟨0,.phase⟩,⟨1,.phase⟩,⟨2,.phase⟩,⟨3,.phase⟩],none⟩] false) ((Code.region 11 #[
  ⟨some 50,.binOp .eql 3 (.tmp 42) (.const (.int .i64 2)) 3,4,"ref.go:76",#[],none⟩,
  ⟨some 49,.assign (.tmp 50),4,"ref.go:76",#[⟨0,.data⟩],none⟩] false).seq (Code.cond (Operand.tmp 49) (Code.region 12 #[
  ⟨some 51,.load 28 (.tmp 12),28,"ref.go:77",#[],none⟩,
  ⟨some 52,.move (.tmp 4),28,"ref.go:77",#[],none⟩,
  ⟨some 53,.fieldAddr 57 (.tmp 15) 1,0,"ref.go:77",#[],none⟩,
  ⟨some 54,.load 3 (.tmp 53),3,"ref.go:77",#[⟨2,.data⟩],none⟩,
  ⟨some 55,.indexAddr 28 (.tmp 52) (.tmp 54),0,"ref.go:77",#[⟨1,.data⟩,⟨3,.data⟩],none⟩,
  ⟨some 56,.load 27 (.tmp 55),27,"ref.go:77",#[⟨4,.data⟩],none⟩,
  ⟨some 57,.buildSlice 28 1 #[(0,.tmp 56)],28,"ref.go:77",#[⟨5,.data⟩],none⟩,
  ⟨some 58,.call ⟨.builtin .append,#[.tmp 51,.tmp 57],#[28,28]⟩,28,"ref.go:77",#[⟨0,.data⟩,⟨6,.data⟩],none⟩,
  ⟨none,.store 28 (.tmp 12) (.tmp 58),0,"ref.go:77",#[⟨7,.data⟩,⟨7,.chain⟩,⟨0,.phase⟩,⟨1,.phase⟩,⟨2,.phase⟩,⟨3,.phase⟩,⟨4,.phase⟩,⟨5,.phase⟩,⟨6,.phase⟩,⟨7,.phase⟩],none⟩] true) ((Code.region 13 #[
  ⟨some 60,.binOp .eql 3 (.tmp 42) (.const (.int .i64 3)) 3,4,"ref.go:78",#[],none⟩,
  ⟨some 59,.assign (.tmp 60),4,"ref.go:78",#[⟨0,.data⟩],none⟩] false).seq (Code.cond (Operand.tmp 59) (Code.region 14 #[
  ⟨some 61,.load 28 (.tmp 12),28,"ref.go:79",#[],none⟩,
  ⟨some 62,.move (.tmp 11),28,"ref.go:79",#[],none⟩,
  ⟨some 63,.fieldAddr 57 (.tmp 15) 1,0,"ref.go:79",#[],none⟩,
  ⟨some 64,.load 3 (.tmp 63),3,"ref.go:79",#[⟨2,.data⟩],none⟩,
  ⟨some 65,.indexAddr 28 (.tmp 62) (.tmp 64),0,"ref.go:79",#[⟨1,.data⟩,⟨3,.data⟩],none⟩,
  ⟨some 66,.load 27 (.tmp 65),27,"ref.go:79",#[⟨4,.data⟩],none⟩,
  ⟨some 67,.buildSlice 28 1 #[(0,.tmp 66)],28,"ref.go:79",#[⟨5,.data⟩],none⟩,
  ⟨some 68,.call ⟨.builtin .append,#[.tmp 61,.tmp 67],#[28,28]⟩,28,"ref.go:79",#[⟨0,.data⟩,⟨6,.data⟩],none⟩,
  ⟨none,.store 28 (.tmp 12) (.tmp 68),0,"ref.go:79",#[⟨7,.data⟩,⟨7,.chain⟩,⟨0,.phase⟩,⟨1,.phase⟩,⟨2,.phase⟩,⟨3,.phase⟩,⟨4,.phase⟩,⟨5,.phase⟩,⟨6,.phase⟩,⟨7,.phase⟩],none⟩] true) ((Code.region 15 #[
  ⟨some 70,.binOp .eql 3 (.tmp 42) (.const (.int .i64 4)) 3,4,"ref.go:80",#[],none⟩,
  ⟨some 69,.assign (.tmp 70),4,"ref.go:80",#[⟨0,.data⟩],none⟩] false).seq (Code.cond (Operand.tmp 69) (Code.region 16 #[
  ⟨some 71,.load 28 (.tmp 12),28,"ref.go:81",#[],none⟩,
  ⟨some 72,.move (.tmp 0),42,"ref.go:81",#[],none⟩,
  ⟨some 73,.nilCheck (.tmp 72),0,"ref.go:81",#[⟨1,.data⟩],none⟩,
  ⟨some 74,.fieldAddr 91 (.tmp 73) 0,0,"ref.go:81",#[⟨2,.data⟩],none⟩,
  ⟨some 75,.fieldAddr 25 (.tmp 74) 1,0,"ref.go:81",#[⟨3,.data⟩],none⟩,
  ⟨some 76,.load 23 (.tmp 75),23,"ref.go:81",#[⟨4,.data⟩],none⟩,
  ⟨some 77,.load 27 (.tmp 8),27,"ref.go:81",#[],none⟩,
  ⟨some 78,.fieldAddr 57 (.tmp 15) 1,0,"ref.go:81",#[],none⟩,
  ⟨some 79,.load 3 (.tmp 78),3,"ref.go:81",#[⟨7,.data⟩],none⟩,
  ⟨some 80,.call ⟨.value (.func 72),#[.tmp 76,.tmp 77,.tmp 79],#[23,27,3]⟩,27,"ref.go:81",#[⟨5,.data⟩,⟨6,.data⟩,⟨8,.data⟩],none⟩,
  ⟨some 81,.buildSlice 28 1 #[(0,.tmp 80)],28,"ref.go:81",#[⟨9,.data⟩],none⟩,
  ⟨some 82,.call ⟨.builtin .append,#[.tmp 71,.tmp 81],#[28,28]⟩,28,"ref.go:81",#[⟨0,.data⟩,⟨10,.data⟩,⟨9,.chain⟩],none⟩,
  ⟨none,.store 28 (.tmp 12) (.tmp 82),0,"ref.go:81",#[⟨11,.data⟩,⟨11,.chain⟩,⟨0,.phase⟩,⟨1,.phase⟩,⟨2,.phase⟩,⟨3,.phase⟩,⟨4,.phase⟩,⟨5,.phase⟩,⟨6,.phase⟩,⟨7,.phase⟩,⟨8,.phase⟩,⟨9,.phase⟩,⟨10,.phase⟩,⟨11,.phase⟩],none⟩] true) ((Code.region 17 #[
  ⟨some 84,.binOp .eql 3 (.tmp 42) (.const (.int .i64 5)) 3,4,"ref.go:82",#[],none⟩,
  ⟨some 83,.assign (.tmp 84),4,"ref.go:82",#[⟨0,.data⟩],none⟩] false).seq (Code.cond (Operand.tmp 83) (Code.region 18 #[
  ⟨some 85,.load 28 (.tmp 12),28,"ref.go:83",#[],none⟩,
  ⟨some 86,.fieldAddr 57 (.tmp 15) 1,0,"ref.go:83",#[],none⟩,
  ⟨some 87,.load 3 (.tmp 86),3,"ref.go:83",#[⟨1,.data⟩],none⟩,
  ⟨some 88,.build 27 #[(0,.const (.int .i64 3)),(1,.tmp 87)],27,"ref.go:83",#[⟨2,.data⟩],none⟩,
  ⟨some 89,.buildSlice 28 1 #[(0,.tmp 88)],28,"ref.go:83",#[⟨3,.data⟩],none⟩,
  ⟨some 90,.call ⟨.builtin .append,#[.tmp 85,.tmp 89],#[28,28]⟩,28,"ref.go:83",#[⟨0,.data⟩,⟨4,.data⟩],none⟩,
  ⟨none,.store 28 (.tmp 12) (.tmp 90),0,"ref.go:83",#[⟨5,.data⟩,⟨5,.chain⟩,⟨0,.phase⟩,⟨1,.phase⟩,⟨2,.phase⟩,⟨3,.phase⟩,⟨4,.phase⟩,⟨5,.phase⟩],none⟩] false) ((Code.region 19 #[
  ⟨some 92,.binOp .eql 3 (.tmp 42) (.const (.int .i64 6)) 3,4,"ref.go:84",#[],none⟩,
  ⟨some 91,.assign (.tmp 92),4,"ref.go:84",#[⟨0,.data⟩],none⟩] false).seq (Code.cond (Operand.tmp 91) (Code.region 20 #[
  ⟨some 93,.load 28 (.tmp 12),28,"ref.go:85",#[],none⟩,
  ⟨some 94,.build 27 #[],27,"ref.go:85",#[],none⟩,
  ⟨some 95,.buildSlice 28 1 #[(0,.tmp 94)],28,"ref.go:85",#[⟨1,.data⟩],none⟩,
  ⟨some 96,.call ⟨.builtin .append,#[.tmp 93,.tmp 95],#[28,28]⟩,28,"ref.go:85",#[⟨0,.data⟩,⟨2,.data⟩],none⟩,
  ⟨none,.store 28 (.tmp 12) (.tmp 96),0,"ref.go:85",#[⟨3,.data⟩,⟨3,.chain⟩,⟨0,.phase⟩,⟨1,.phase⟩,⟨2,.phase⟩,⟨3,.phase⟩],none⟩] false) ((Code.region 21 #[
  ⟨some 98,.binOp .eql 3 (.tmp 42) (.const (.int .i64 7)) 3,4,"ref.go:86",#[],none⟩,
  ⟨some 97,.assign (.tmp 98),4,"ref.go:86",#[⟨0,.data⟩],none⟩] false).seq (Code.cond (Operand.tmp 97) (Code.region 22 #[
  ⟨some 99,.load 28 (.tmp 12),28,"ref.go:87",#[],none⟩,
  ⟨some 100,.call ⟨.value (.func 70),#[.const (.bool false)],#[4]⟩,27,"ref.go:87",#[],none⟩,
  ⟨some 101,.buildSlice 28 1 #[(0,.tmp 100)],28,"ref.go:87",#[⟨1,.data⟩],none⟩,
  ⟨some 102,.call ⟨.builtin .append,#[.tmp 99,.tmp 101],#[28,28]⟩,28,"ref.go:87",#[⟨0,.data⟩,⟨2,.data⟩,⟨1,.chain⟩],none⟩,
  ⟨none,.store 28 (.tmp 12) (.tmp 102),0,"ref.go:87",#[⟨3,.data⟩,⟨3,.chain⟩,⟨0,.phase⟩,⟨1,.phase⟩,⟨2,.phase⟩,⟨3,.phase⟩],none⟩] true) ((Code.region 23 #[
  ⟨some 104,.binOp .eql 3 (.tmp 42) (.const (.int .i64 8)) 3,4,"ref.go:88",#[],none⟩,
  ⟨some 103,.assign (.tmp 104),4,"ref.go:88",#[⟨0,.data⟩],none⟩] false).seq (Code.cond (Operand.tmp 103) (Code.region 24 #[
  ⟨some 105,.load 28 (.tmp 12),28,"ref.go:89",#[],none⟩,
  ⟨some 106,.call ⟨.value (.func 70),#[.const (.bool true)],#[4]⟩,27,"ref.go:89",#[],none⟩,
  ⟨some 107,.buildSlice 28 1 #[(0,.tmp 106)],28,"ref.go:89",#[⟨1,.data⟩],none⟩,
  ⟨some 108,.call ⟨.builtin .append,#[.tmp 105,.tmp 107],#[28,28]⟩,28,"ref.go:89",#[⟨0,.data⟩,⟨2,.data⟩,⟨1,.chain⟩],none⟩,
  ⟨none,.store 28 (.tmp 12) (.tmp 108),0,"ref.go:89",#[⟨3,.data⟩,⟨3,.chain⟩,⟨0,.phase⟩,⟨1,.phase⟩,⟨2,.phase⟩,⟨3,.phase⟩],none⟩] true) ((Code.region 25 #[
  ⟨some 110,.binOp .eql 3 (.tmp 42) (.const (.int .i64 9)) 3,4,"ref.go:90",#[],none⟩,
  ⟨some 109,.assign (.tmp 110),4,"ref.go:90",#[⟨0,.data⟩],none⟩] false).seq (Code.cond (Operand.tmp 109) (Code.region 26 #[
  ⟨some 111,.move (.tmp 13),139,"ref.go:91",#[],none⟩,
  ⟨some 112,.call ⟨.value (.tmp 111),#[],#[]⟩,27,"ref.go:91",#[⟨0,.data⟩],none⟩] false) ((Code.region 27 #[
  ⟨some 114,.binOp .eql 3 (.tmp 42) (.const (.int .i64 10)) 3,4,"ref.go:92",#[],none⟩,
  ⟨some 113,.assign (.tmp 114),4,"ref.go:92",#[⟨0,.data⟩],none⟩] false).seq (Code.cond (Operand.tmp 113) ((Code.region 28 #[
  ⟨some 115,.move (.tmp 13),139,"ref.go:93",#[],none⟩,
  ⟨some 116,.call ⟨.value (.tmp 115),#[],#[]⟩,27,"ref.go:93",#[⟨0,.data⟩],none⟩,
  ⟨some 17,.alloc 27,0,"ref.go:93",#[],none⟩,
  ⟨none,.store 27 (.tmp 17) (.tmp 116),0,"ref.go:93",#[⟨2,.data⟩,⟨1,.data⟩,⟨1,.chain⟩,⟨0,.phase⟩,⟨1,.phase⟩,⟨2,.phase⟩],none⟩] false).seq (Code.region 29 #[
  ⟨some 117,.load 28 (.tmp 12),28,"ref.go:94",#[],none⟩,
  ⟨some 118,.load 27 (.tmp 17),27,"ref.go:94",#[],none⟩,
  ⟨some 119,.load 27 (.tmp 17),27,"ref.go:94",#[],none⟩,
  ⟨some 120,.buildSlice 28 2 #[(0,.tmp 118),(1,.tmp 119)],28,"ref.go:94",#[⟨1,.data⟩,⟨2,.data⟩],none⟩,
  ⟨some 121,.call ⟨.builtin .append,#[.tmp 117,.tmp 120],#[28,28]⟩,28,"ref.go:94",#[⟨0,.data⟩,⟨3,.data⟩],none⟩,
  ⟨none,.store 28 (.tmp 12) (.tmp 121),0,"ref.go:94",#[⟨4,.data⟩,⟨4,.chain⟩,⟨0,.phase⟩,⟨1,.phase⟩,⟨2,.phase⟩,⟨3,.phase⟩,⟨4,.phase⟩],none⟩] false)) ((Code.region 30 #[
  ⟨some 123,.binOp .eql 3 (.tmp 42) (.const (.int .i64 11)) 3,4,"ref.go:95",#[],none⟩,
  ⟨some 122,.assign (.tmp 123),4,"ref.go:95",#[⟨0,.data⟩],none⟩] false).seq (Code.cond (Operand.tmp 122) (Code.region 31 #[
  ⟨some 124,.move (.tmp 11),28,"ref.go:96",#[],none⟩,
  ⟨some 125,.fieldAddr 57 (.tmp 15) 1,0,"ref.go:96",#[],none⟩,
  ⟨some 126,.load 3 (.tmp 125),3,"ref.go:96",#[⟨1,.data⟩],none⟩,
  ⟨some 127,.move (.tmp 13),139,"ref.go:96",#[],none⟩,
  ⟨some 128,.call ⟨.value (.tmp 127),#[],#[]⟩,27,"ref.go:96",#[⟨3,.data⟩],none⟩,
  ⟨some 129,.indexAddr 28 (.tmp 124) (.tmp 126),0,"ref.go:96",#[⟨0,.data⟩,⟨2,.data⟩,⟨0,.phase⟩,⟨1,.phase⟩,⟨2,.phase⟩,⟨3,.phase⟩,⟨4,.phase⟩],none⟩,
  ⟨none,.store 27 (.tmp 129) (.tmp 128),0,"ref.go:96",#[⟨5,.data⟩,⟨4,.data⟩,⟨4,.chain⟩,⟨0,.phase⟩,⟨1,.phase⟩,⟨2,.phase⟩,⟨3,.phase⟩,⟨4,.phase⟩],none⟩] true) ((Code.region 32 #[
  ⟨some 131,.binOp .eql 3 (.tmp 42) (.const (.int .i64 12)) 3,4,"ref.go:97",#[],none⟩,
  ⟨some 130,.assign (.tmp 131),4,"ref.go:97",#[⟨0,.data⟩],none⟩] false).seq (Code.cond (Operand.tmp 130) (Code.region 33 #[
  ⟨some 132,.move (.tmp 0),42,"ref.go:98",#[],none⟩,
  ⟨some 133,.load 27 (.tmp 8),27,"ref.go:98",#[],none⟩,
  ⟨some 134,.fieldAddr 57 (.tmp 15) 1,0,"ref.go:98",#[],none⟩,
  ⟨some 135,.load 3 (.tmp 134),3,"ref.go:98",#[⟨2,.data⟩],none⟩,
  ⟨some 136,.move (.tmp 13),139,"ref.go:98",#[],none⟩,
  ⟨some 137,.call ⟨.value (.tmp 136),#[],#[]⟩,27,"ref.go:98",#[⟨4,.data⟩],none⟩,
  ⟨some 138,.call ⟨.value (.func 73),#[.tmp 132,.tmp 133,.tmp 135,.tmp 137],#[42,27,3,27]⟩,0,"ref.go:98",#[⟨0,.data⟩,⟨1,.data⟩,⟨3,.data⟩,⟨5,.data⟩,⟨5,.chain⟩],none⟩] true) ((Code.region 34 #[
  ⟨some 140,.binOp .eql 3 (.tmp 42) (.const (.int .i64 13)) 3,4,"ref.go:99",#[],none⟩,
  ⟨some 139,.assign (.tmp 140),4,"ref.go:99",#[⟨0,.data⟩],none⟩] false).seq (Code.cond (Operand.tmp 139) (((Code.region 35 #[
  ⟨some 141,.move (.tmp 0),42,"ref.go:100",#[],none⟩,
  ⟨some 142,.nilCheck (.tmp 141),0,"ref.go:100",#[⟨0,.data⟩],none⟩,
  ⟨some 143,.fieldAddr 91 (.tmp 142) 0,0,"ref.go:100",#[⟨1,.data⟩],none⟩,
  ⟨some 144,.fieldAddr 25 (.tmp 143) 1,0,"ref.go:100",#[⟨2,.data⟩],none⟩,
  ⟨some 145,.load 23 (.tmp 144),23,"ref.go:100",#[⟨3,.data⟩],none⟩,
  ⟨some 146,.call ⟨.builtin .len,#[.tmp 145],#[23]⟩,3,"ref.go:100",#[⟨4,.data⟩],none⟩,
  ⟨some 147,.binOp .geq 3 (.tmp 146) (.const (.int .i64 60)) 3,4,"ref.go:100",#[⟨5,.data⟩],none⟩] false).seq (Code.cond (Operand.tmp 147) ((Code.region 36 #[
  ⟨some 148,.move (.tmp 0),42,"ref.go:101",#[],none⟩,
  ⟨some 149,.nilCheck (.tmp 148),0,"ref.go:101",#[⟨0,.data⟩,⟨0,.phase⟩],none⟩,
  ⟨some 150,.fieldAddr 91 (.tmp 149) 5,0,"ref.go:101",#[⟨1,.data⟩,⟨0,.phase⟩],none⟩,
  ⟨none,.store 33 (.tmp 150) (.const (.int .i64 15)),0,"ref.go:101",#[⟨2,.data⟩,⟨0,.phase⟩],none⟩] false).seq (Code.exit 2)) Code.skip)).seq ((Code.region 37 #[
  ⟨some 151,.load 28 (.tmp 12),28,"ref.go:104",#[],none⟩,
  ⟨some 152,.move (.tmp 0),42,"ref.go:104",#[],none⟩,
  ⟨some 153,.nilCheck (.tmp 152),0,"ref.go:104",#[⟨1,.data⟩],none⟩,
  ⟨some 154,.fieldAddr 91 (.tmp 153) 0,0,"ref.go:104",#[⟨2,.data⟩],none⟩,
  ⟨some 155,.fieldAddr 25 (.tmp 154) 1,0,"ref.go:104",#[⟨3,.data⟩],none⟩,
  ⟨some 156,.load 23 (.tmp 155),23,"ref.go:104",#[⟨4,.data⟩],none⟩,
  ⟨some 157,.call ⟨.builtin .len,#[.tmp 156],#[23]⟩,3,"ref.go:104",#[⟨5,.data⟩],none⟩,
  ⟨some 158,.build 27 #[(0,.const (.int .i64 4)),(1,.tmp 157)],27,"ref.go:104",#[⟨6,.data⟩],none⟩,
  ⟨some 159,.buildSlice 28 1 #[(0,.tmp 158)],28,"ref.go:104",#[⟨7,.data⟩],none⟩,
  ⟨some 160,.call ⟨.builtin .append,#[.tmp 151,.tmp 159],#[28,28]⟩,28,"ref.go:104",#[⟨0,.data⟩,⟨8,.data⟩],none⟩,
  ⟨none,.store 28 (.tmp 12) (.tmp 160),0,"ref.go:104",#[⟨9,.data⟩,⟨9,.chain⟩,⟨0,.phase⟩,⟨1,.phase⟩,⟨2,.phase⟩,⟨3,.phase⟩,⟨4,.phase⟩,⟨5,.phase⟩,⟨6,.phase⟩,⟨7,.phase⟩,⟨8,.phase⟩,⟨9,.phase⟩],none⟩] true).seq (Code.region 38 #[
  ⟨some 161,.move (.tmp 0),42,"ref.go:105",#[],none⟩,
  ⟨some 162,.buildSlice 23 0 #[],23,"ref.go:105",#[],none⟩,
  ⟨some 163,.move (.tmp 0),42,"ref.go:105",#[],none⟩,
  ⟨some 164,.nilCheck (.tmp 163),0,"ref.go:105",#[⟨2,.data⟩],none⟩,
  ⟨some 165,.fieldAddr 91 (.tmp 164) 0,0,"ref.go:105",#[⟨3,.data⟩],none⟩,
  ⟨some 166,.fieldAddr 25 (.tmp 165) 1,0,"ref.go:105",#[⟨4,.data⟩],none⟩,
  ⟨some 167,.load 23 (.tmp 166),23,"ref.go:105",#[⟨5,.data⟩],none⟩,
  ⟨some 168,.call ⟨.builtin .append,#[.tmp 162,.tmp 167],#[23,23]⟩,23,"ref.go:105",#[⟨1,.data⟩,⟨6,.data⟩],none⟩,
  ⟨some 169,.fieldAddr 57 (.tmp 15) 1,0,"ref.go:105",#[],none⟩,
  ⟨some 170,.load 3 (.tmp 169),3,"ref.go:105",#[⟨8,.data⟩],none⟩,
  ⟨some 171,.move (.tmp 0),42,"ref.go:105",#[],none⟩,
  ⟨some 172,.nilCheck (.tmp 171),0,"ref.go:105",#[⟨10,.data⟩],none⟩,
  ⟨some 173,.fieldAddr 91 (.tmp 172) 0,0,"ref.go:105",#[⟨11,.data⟩],none⟩,
  ⟨some 174,.load 25 (.tmp 173),25,"ref.go:105",#[⟨12,.data⟩],none⟩,
  ⟨some 175,.fieldAddr 57 (.tmp 15) 1,0,"ref.go:105",#[],none⟩,
  ⟨some 176,.load 3 (.tmp 175),3,"ref.go:105",#[⟨14,.data⟩],none⟩,
  ⟨some 177,.call ⟨.value (.func 16),#[.tmp 174,.tmp 176],#[25,3]⟩,3,"ref.go:105",#[⟨13,.data⟩,⟨15,.data⟩,⟨7,.chain⟩],none⟩,
  ⟨some 178,.makeSlice 28 (.tmp 177) (.tmp 177),28,"ref.go:105",#[⟨16,.data⟩,⟨16,.data⟩],none⟩,
  ⟨some 179,.build 61 #[(0,.tmp 170),(1,.tmp 178)],61,"ref.go:105",#[⟨9,.data⟩,⟨17,.data⟩],none⟩,
  ⟨some 180,.buildSlice 23 1 #[(0,.tmp 179)],23,"ref.go:105",#[⟨18,.data⟩],none⟩,
  ⟨some 181,.call ⟨.builtin .append,#[.tmp 168,.tmp 180],#[23,23]⟩,23,"ref.go:105",#[⟨7,.data⟩,⟨19,.data⟩,⟨16,.chain⟩],none⟩,
  ⟨some 182,.nilCheck (.tmp 161),0,"ref.go:105",#[⟨0,.data⟩,⟨0,.phase⟩,⟨1,.phase⟩,⟨2,.phase⟩,⟨3,.phase⟩,⟨4,.phase⟩,⟨5,.phase⟩,⟨6,.phase⟩,⟨7,.phase⟩,⟨8,.phase⟩,⟨9,.phase⟩,⟨10,.phase⟩,⟨11,.phase⟩,⟨12,.phase⟩,⟨13,.phase⟩,⟨14,.phase⟩,⟨15,.phase⟩,⟨16,.phase⟩,⟨17,.phase⟩,⟨18,.phase⟩,⟨19,.phase⟩,⟨20,.phase⟩],none⟩,
  ⟨some 183,.fieldAddr 91 (.tmp 182) 0,0,"ref.go:105",#[⟨21,.data⟩,⟨0,.phase⟩,⟨1,.phase⟩,⟨2,.phase⟩,⟨3,.phase⟩,⟨4,.phase⟩,⟨5,.phase⟩,⟨6,.phase⟩,⟨7,.phase⟩,⟨8,.phase⟩,⟨9,.phase⟩,⟨10,.phase⟩,⟨11,.phase⟩,⟨12,.phase⟩,⟨13,.phase⟩,⟨14,.phase⟩,⟨15,.phase⟩,⟨16,.phase⟩,⟨17,.phase⟩,⟨18,.phase⟩,⟨19,.phase⟩,⟨20,.phase⟩],none⟩,
  ⟨some 184,.fieldAddr 25 (.tmp 183) 1,0,"ref.go:105",#[⟨22,.data⟩,⟨0,.phase⟩,⟨1,.phase⟩,⟨2,.phase⟩,⟨3,.phase⟩,⟨4,.phase⟩,⟨5,.phase⟩,⟨6,.phase⟩,⟨7,.phase⟩,⟨8,.phase⟩,⟨9,.phase⟩,⟨10,.phase⟩,⟨11,.phase⟩,⟨12,.phase⟩,⟨13,.phase⟩,⟨14,.phase⟩,⟨15,.phase⟩,⟨16,.phase⟩,⟨17,.phase⟩,⟨18,.phase⟩,⟨19,.phase⟩,⟨20,.phase⟩],none⟩,
  ⟨none,.store 23 (.tmp 184) (.tmp 181),0,"ref.go:105",#[⟨23,.data⟩,⟨20,.data⟩,⟨20,.chain⟩,⟨0,.phase⟩,⟨1,.phase⟩,⟨2,.phase⟩,⟨3,.phase⟩,⟨4,.phase⟩,⟨5,.phase⟩,⟨6,.phase⟩,⟨7,.phase⟩,⟨8,.phase⟩,⟨9,.phase⟩,⟨10,.phase⟩,⟨11,.phase⟩,⟨12,.phase⟩,⟨13,.phase⟩,⟨14,.phase⟩,⟨15,.phase⟩,⟨16,.phase⟩,⟨17,.phase⟩,⟨18,.phase⟩,⟨19,.phase⟩,⟨20,.phase⟩],none⟩] true))) ((Code.region 39 #[
  ⟨some 186,.binOp .eql 3 (.tmp 42) (.const (.int .i64 14)) 3,4,"ref.go:106",#[],none⟩,
  ⟨some 185,.assign (.tmp 186),4,"ref.go:106",#[⟨0,.data⟩],none⟩] false).seq (Code.cond (Operand.tmp 185) ((Code.region 40 #[
  ⟨some 187,.load 28 (.tmp 12),28,"ref.go:107",#[],none⟩,
  ⟨some 188,.call ⟨.builtin .len,#[.tmp 187],#[28]⟩,3,"ref.go:107",#[⟨0,.data⟩],none⟩,
  ⟨some 189,.fieldAddr 57 (.tmp 15) 1,0,"ref.go:107",#[],none⟩,
  ⟨some 190,.load 3 (.tmp 189),3,"ref.go:107",#[⟨2,.data⟩],none⟩,
  ⟨some 191,.binOp .sub 3 (.tmp 188) (.tmp 190) 3,3,"ref.go:107",#[⟨1,.data⟩,⟨3,.data⟩],none⟩,
  ⟨some 18,.assign (.tmp 191),3,"ref.go:107",#[⟨4,.data⟩,⟨0,.phase⟩,⟨1,.phase⟩,⟨2,.phase⟩,⟨3,.phase⟩,⟨4,.phase⟩],none⟩] false).seq ((Code.region 41 #[
  ⟨some 192,.buildSlice 28 0 #[],28,"ref.go:108",#[],none⟩,
  ⟨some 193,.load 28 (.tmp 12),28,"ref.go:108",#[],none⟩,
  ⟨some 194,.move (.tmp 18),3,"ref.go:108",#[],none⟩,
  ⟨some 195,.slice 28 (.tmp 193) (some (.tmp 194)) none none,28,"ref.go:108",#[⟨1,.data⟩,⟨2,.data⟩],none⟩,
  ⟨some 196,.call ⟨.builtin .append,#[.tmp 192,.tmp 195],#[28,28]⟩,28,"ref.go:108",#[⟨0,.data⟩,⟨3,.data⟩],none⟩,
  ⟨some 197,.load 28 (.tmp 12),28,"ref.go:108",#[⟨11,.gcOnly .lateStores⟩],none⟩,
  ⟨some 198,.move (.tmp 18),3,"ref.go:108",#[⟨11,.gcOnly .lateStores⟩],none⟩,
  ⟨some 199,.binOp .sub 3 (.tmp 198) (.const (.int .i64 1)) 3,3,"ref.go:108",#[⟨6,.data⟩,⟨11,.gcOnly .lateStores⟩],none⟩,
  ⟨some 200,.indexAddr 28 (.tmp 197) (.tmp 199),0,"ref.go:108",#[⟨5,.data⟩,⟨7,.data⟩,⟨11,.gcOnly .lateStores⟩],none⟩,
  ⟨some 201,.load 27 (.tmp 200),27,"ref.go:108",#[⟨8,.data⟩,⟨11,.gcOnly .lateStores⟩],none⟩,
  ⟨some 20,.alloc 27,0,"ref.go:108",#[],none⟩,
  ⟨some 19,.assign (.tmp 196),28,"ref.go:108",#[⟨4,.data⟩,⟨4,.chain⟩,⟨0,.phase⟩,⟨1,.phase⟩,⟨2,.phase⟩,⟨3,.phase⟩,⟨4,.phase⟩,⟨5,.textOnly .lateStores⟩,⟨6,.textOnly .lateStores⟩,⟨7,.textOnly .lateStores⟩,⟨8,.textOnly .lateStores⟩,⟨9,.textOnly .lateStores⟩,⟨10,.phase⟩],none⟩,
  ⟨none,.store 27 (.tmp 20) (.tmp 201),0,"ref.go:108",#[⟨10,.data⟩,⟨9,.data⟩,⟨11,.chain⟩,⟨0,.phase⟩,⟨1,.phase⟩,⟨2,.phase⟩,⟨3,.phase⟩,⟨4,.phase⟩,⟨5,.phase⟩,⟨6,.phase⟩,⟨7,.phase⟩,⟨8,.phase⟩,⟨9,.phase⟩,⟨10,.phase⟩,⟨11,.phase⟩],none⟩] true).seq ((Code.region 42 #[
  ⟨some 202,.load 28 (.tmp 12),28,"ref.go:109",#[],none⟩,
  ⟨some 203,.move (.tmp 18),3,"ref.go:109",#[],none⟩,
  ⟨some 204,.binOp .sub 3 (.tmp 203) (.const (.int .i64 1)) 3,3,"ref.go:109",#[⟨1,.data⟩],none⟩,
  ⟨some 205,.slice 28 (.tmp 202) none (some (.tmp 204)) none,28,"ref.go:109",#[⟨0,.data⟩,⟨2,.data⟩],none⟩,
  ⟨none,.store 28 (.tmp 12) (.tmp 205),0,"ref.go:109",#[⟨3,.data⟩,⟨0,.phase⟩,⟨1,.phase⟩,⟨2,.phase⟩,⟨3,.phase⟩],none⟩] false).seq ((Code.region 43 #[
  ⟨some 206,.move (.tmp 0),42,"ref.go:110",#[],none⟩,
  ⟨some 207,.nilCheck (.tmp 206),0,"ref.go:110",#[⟨0,.data⟩],none⟩,
  ⟨some 208,.fieldAddr 91 (.tmp 207) 0,0,"ref.go:110",#[⟨1,.data⟩],none⟩,
  ⟨some 209,.fieldAddr 25 (.tmp 208) 1,0,"ref.go:110",#[⟨2,.data⟩],none⟩,
  ⟨some 210,.load 23 (.tmp 209),23,"ref.go:110",#[⟨3,.data⟩],none⟩,
  ⟨some 211,.load 27 (.tmp 20),27,"ref.go:110",#[],none⟩,
  ⟨some 212,.call ⟨.value (.func 26),#[.tmp 210,.tmp 211],#[23,27]⟩,3,"ref.go:110",#[⟨4,.data⟩,⟨5,.data⟩],none⟩,
  ⟨some 21,.assign (.tmp 212),3,"ref.go:110",#[⟨6,.data⟩,⟨6,.chain⟩,⟨0,.phase⟩,⟨1,.phase⟩,⟨2,.phase⟩,⟨3,.phase⟩,⟨4,.phase⟩,⟨5,.phase⟩,⟨6,.phase⟩],none⟩] true).seq ((Code.region 44 #[
  ⟨some 213,.move (.tmp 0),42,"ref.go:111",#[],none⟩,
  ⟨some 214,.move (.tmp 0),42,"ref.go:111",#[⟨22,.gcOnly .lateStores⟩],none⟩,
  ⟨some 215,.move (.tmp 0),42,"ref.go:111",#[],none⟩,
  ⟨some 216,.nilCheck (.tmp 215),0,"ref.go:111",#[⟨2,.data⟩],none⟩,
  ⟨some 217,.fieldAddr 91 (.tmp 216) 6,0,"ref.go:111",#[⟨3,.data⟩],none⟩,
  ⟨some 218,.load 89 (.tmp 217),89,"ref.go:111",#[⟨4,.data⟩],none⟩,
  ⟨some 219,.move (.tmp 1),3,"ref.go:111",#[],none⟩,
  ⟨some 220,.fieldAddr 59 (.tmp 7) 0,0,"ref.go:111",#[],none⟩,
  ⟨some 221,.load 9 (.tmp 220),9,"ref.go:111",#[⟨7,.data⟩],none⟩,
  ⟨some 222,.move (.tmp 14),3,"ref.go:111",#[],none⟩,
  ⟨some 223,.build 63 #[(0,.tmp 219),(1,.tmp 221),(2,.tmp 222)],63,"ref.go:111",#[⟨6,.data⟩,⟨8,.data⟩,⟨9,.data⟩],none⟩,
  ⟨some 224,.buildSlice 89 1 #[(0,.tmp 223)],89,"ref.go:111",#[⟨10,.data⟩],none⟩,
  ⟨some 225,.call ⟨.builtin .append,#[.tmp 218,.tmp 224],#[89,89]⟩,89,"ref.go:111",#[⟨5,.data⟩,⟨11,.data⟩],none⟩,
  ⟨some 226,.move (.tmp 0),42,"ref.go:111",#[],none⟩,
  ⟨some 227,.nilCheck (.tmp 226),0,"ref.go:111",#[⟨13,.data⟩],none⟩,
  ⟨some 228,.fieldAddr 91 (.tmp 227) 7,0,"ref.go:111",#[⟨14,.data⟩],none⟩,
  ⟨some 229,.load 87 (.tmp 228),87,"ref.go:111",#[⟨15,.data⟩],none⟩,
  ⟨some 230,.move (.tmp 21),3,"ref.go:111",#[],none⟩,
  ⟨some 231,.buildSlice 87 1 #[(0,.tmp 230)],87,"ref.go:111",#[⟨17,.data⟩],none⟩,
  ⟨some 232,.call ⟨.builtin .append,#[.tmp 229,.tmp 231],#[87,87]⟩,87,"ref.go:111",#[⟨16,.data⟩,⟨18,.data⟩,⟨12,.chain⟩],none⟩,
  ⟨some 233,.nilCheck (.tmp 213),0,"ref.go:111",#[⟨0,.data⟩,⟨0,.phase⟩,⟨1,.textOnly .lateStores⟩,⟨2,.phase⟩,⟨3,.phase⟩,⟨4,.phase⟩,⟨5,.phase⟩,⟨6,.phase⟩,⟨7,.phase⟩,⟨8,.phase⟩,⟨9,.phase⟩,⟨10,.phase⟩,⟨11,.phase⟩,⟨12,.phase⟩,⟨13,.textOnly .lateStores⟩,⟨14,.textOnly .lateStoresUnsure⟩,⟨15,.textOnly .lateStoresUnsure⟩,⟨16,.phase⟩,⟨17,.textOnly .lateStores⟩,⟨18,.textOnly .lateStoresUnsure⟩,⟨19,.phase⟩],none⟩,
  ⟨some 234,.fieldAddr 91 (.tmp 233) 6,0,"ref.go:111",#[⟨20,.data⟩,⟨0,.phase⟩,⟨1,.textOnly .lateStores⟩,⟨2,.phase⟩,⟨3,.phase⟩,⟨4,.phase⟩,⟨5,.phase⟩,⟨6,.phase⟩,⟨7,.phase⟩,⟨8,.phase⟩,⟨9,.phase⟩,⟨10,.phase⟩,⟨11,.phase⟩,⟨12,.phase⟩,⟨13,.textOnly .lateStores⟩,⟨14,.textOnly .lateStoresUnsure⟩,⟨15,.textOnly .lateStoresUnsure⟩,⟨16,.phase⟩,⟨17,.textOnly .lateStores⟩,⟨18,.textOnly .lateStoresUnsure⟩,⟨19,.phase⟩],none⟩,
  ⟨none,.store 89 (.tmp 234) (.tmp 225),0,"ref.go:111",#[⟨21,.data⟩,⟨12,.data⟩,⟨19,.chain⟩,⟨0,.phase⟩,⟨1,.textOnly .lateStores⟩,⟨2,.phase⟩,⟨3,.phase⟩,⟨4,.phase⟩,⟨5,.phase⟩,⟨6,.phase⟩,⟨7,.phase⟩,⟨8,.phase⟩,⟨9,.phase⟩,⟨10,.phase⟩,⟨11,.phase⟩,⟨12,.phase⟩,⟨13,.textOnly .lateStores⟩,⟨14,.textOnly .lateStoresUnsure⟩,⟨15,.textOnly .lateStoresUnsure⟩,⟨16,.phase⟩,⟨17,.textOnly .lateStores⟩,⟨18,.textOnly .lateStoresUnsure⟩,⟨19,.phase⟩],none⟩,
  ⟨some 235,.nilCheck (.tmp 214),0,"ref.go:111",#[⟨1,.data⟩,⟨0,.phase⟩,⟨1,.phase⟩,⟨2,.phase⟩,⟨3,.phase⟩,⟨4,.phase⟩,⟨5,.phase⟩,⟨6,.phase⟩,⟨7,.phase⟩,⟨8,.phase⟩,⟨9,.phase⟩,⟨10,.phase⟩,⟨11,.phase⟩,⟨12,.phase⟩,⟨13,.phase⟩,⟨14,.phase⟩,⟨15,.phase⟩,⟨16,.phase⟩,⟨17,.phase⟩,⟨18,.phase⟩,⟨19,.phase⟩,⟨20,.phase⟩,⟨21,.phase⟩,⟨22,.phase⟩],none⟩,
  ⟨some 236,.fieldAddr 91 (.tmp 235) 7,0,"ref.go:111",#[⟨23,.data⟩,⟨0,.phase⟩,⟨1,.phase⟩,⟨2,.phase⟩,⟨3,.phase⟩,⟨4,.phase⟩,⟨5,.phase⟩,⟨6,.phase⟩,⟨7,.phase⟩,⟨8,.phase⟩,⟨9,.phase⟩,⟨10,.phase⟩,⟨11,.phase⟩,⟨12,.phase⟩,⟨13,.phase⟩,⟨14,.phase⟩,⟨15,.phase⟩,⟨16,.phase⟩,⟨17,.phase⟩,⟨18,.phase⟩,⟨19,.phase⟩,⟨20,.phase⟩,⟨21,.phase⟩,⟨22,.phase⟩],none⟩,
  ⟨none,.store 87 (.tmp 236) (.tmp 232),0,"ref.go:111",#[⟨24,.data⟩,⟨19,.data⟩,⟨22,.chain⟩,⟨0,.phase⟩,⟨1,.phase⟩,⟨2,.phase⟩,⟨3,.phase⟩,⟨4,.phase⟩,⟨5,.phase⟩,⟨6,.phase⟩,⟨7,.phase⟩,⟨8,.phase⟩,⟨9,.phase⟩,⟨10,.phase⟩,⟨11,.phase⟩,⟨12,.phase⟩,⟨13,.phase⟩,⟨14,.phase⟩,⟨15,.phase⟩,⟨16,.phase⟩,⟨17,.phase⟩,⟨18,.phase⟩,⟨19,.phase⟩,⟨20,.phase⟩,⟨21,.phase⟩,⟨22,.phase⟩],none⟩] true).seq ((Code.region 45 #[
  ⟨some 238,.move (.tmp 0),42,"ref.go:112",#[],none⟩,
  ⟨some 239,.nilCheck (.tmp 238),0,"ref.go:112",#[⟨0,.data⟩],none⟩,
  ⟨some 240,.fieldAddr 91 (.tmp 239) 0,0,"ref.go:112",#[⟨1,.data⟩],none⟩,
  ⟨some 241,.load 25 (.tmp 240),25,"ref.go:112",#[⟨2,.data⟩],none⟩,
  ⟨some 242,.move (.tmp 21),3,"ref.go:112",#[],none⟩,
  ⟨some 243,.fieldAddr 57 (.tmp 15) 4,0,"ref.go:112",#[],none⟩,
  ⟨some 244,.load 9 (.tmp 243),9,"ref.go:112",#[⟨5,.data⟩],none⟩,
  ⟨some 245,.call ⟨.value (.func 25),#[.tmp 241,.tmp 242,.tmp 244],#[25,3,9]⟩,93,"ref.go:112",#[⟨3,.data⟩,⟨4,.data⟩,⟨6,.data⟩],none⟩,
  ⟨some 237,.move (.tmp 245),93,"ref.go:112",#[⟨7,.data⟩],none⟩,
  ⟨some 246,.extract (.tmp 237) 0,3,"ref.go:112",#[⟨8,.data⟩],none⟩,
  ⟨some 247,.extract (.tmp 237) 1,3,"ref.go:112",#[⟨8,.data⟩,⟨11,.gcOnly .lateStores⟩],none⟩,
  ⟨some 22,.assign (.tmp 246),3,"ref.go:112",#[⟨9,.data⟩,⟨7,.chain⟩,⟨0,.phase⟩,⟨1,.phase⟩,⟨2,.phase⟩,⟨3,.phase⟩,⟨4,.phase⟩,⟨5,.phase⟩,⟨6,.phase⟩,⟨7,.phase⟩,⟨8,.phase⟩,⟨9,.phase⟩,⟨10,.textOnly .lateStores⟩],none⟩,
  ⟨some 23,.assign (.tmp 247),3,"ref.go:112",#[⟨10,.data⟩,⟨11,.chain⟩,⟨0,.phase⟩,⟨1,.phase⟩,⟨2,.phase⟩,⟨3,.phase⟩,⟨4,.phase⟩,⟨5,.phase⟩,⟨6,.phase⟩,⟨7,.phase⟩,⟨8,.phase⟩,⟨9,.phase⟩,⟨10,.phase⟩,⟨11,.phase⟩],none⟩] true).seq (((Code.region 46 #[
  ⟨some 248,.move (.tmp 23),3,"ref.go:113",#[],none⟩,
  ⟨some 249,.binOp .lss 3 (.tmp 248) (.const (.int .i64 0)) 3,4,"ref.go:113",#[⟨0,.data⟩],none⟩] false).seq (Code.cond (Operand.tmp 249) ((Code.region 47 #[
  ⟨some 250,.move (.tmp 0),42,"ref.go:114",#[],none⟩,
  ⟨some 251,.nilCheck (.tmp 250),0,"ref.go:114",#[⟨0,.data⟩,⟨0,.phase⟩],none⟩,
  ⟨some 252,.fieldAddr 91 (.tmp 251) 5,0,"ref.go:114",#[⟨1,.data⟩,⟨0,.phase⟩],none⟩,
  ⟨none,.store 33 (.tmp 252) (.const (.int .i64 10)),0,"ref.go:114",#[⟨2,.data⟩,⟨0,.phase⟩],none⟩] false).seq (Code.exit 2)) Code.skip)).seq (Code.region 48 #[
  ⟨some 253,.load 28 (.tmp 12),28,"ref.go:117",#[],none⟩,
  ⟨some 254,.move (.tmp 0),42,"ref.go:117",#[],none⟩,
  ⟨some 255,.move (.tmp 22),3,"ref.go:117",#[],none⟩,
  ⟨some 256,.move (.tmp 23),3,"ref.go:117",#[],none⟩,
  ⟨some 257,.load 27 (.tmp 20),27,"ref.go:117",#[],none⟩,
  ⟨some 258,.move (.tmp 19),28,"ref.go:117",#[],none⟩,
  ⟨some 259,.call ⟨.value (.func 27),#[.tmp 254,.tmp 255,.tmp 256,.tmp 257,.tmp 258],#[42,3,3,27,28]⟩,27,"ref.go:117",#[⟨1,.data⟩,⟨2,.data⟩,⟨3,.data⟩,⟨4,.data⟩,⟨5,.data⟩],none⟩,
  ⟨some 260,.buildSlice 28 1 #[(0,.tmp 259)],28,"ref.go:117",#[⟨6,.data⟩],none⟩,
  ⟨some 261,.call ⟨.builtin .append,#[.tmp 253,.tmp 260],#[28,28]⟩,28,"ref.go:117",#[⟨0,.data⟩,⟨7,.data⟩,⟨6,.chain⟩],none⟩,
  ⟨none,.store 28 (.tmp 12) (.tmp 261),0,"ref.go:117",#[⟨8,.data⟩,⟨8,.chain⟩,⟨0,.phase⟩,⟨1,.phase⟩,⟨2,.phase⟩,⟨3,.phase⟩,⟨4,.phase⟩,⟨5,.phase⟩,⟨6,.phase⟩,⟨7,.phase⟩,⟨8,.phase⟩],none⟩] true)))))))) ((Code.region 49 #[
  ⟨some 263,.binOp .eql 3 (.tmp 42) (.const (.int .i64 15)) 3,4,"ref.go:118",#[],none⟩,
  ⟨some 262,.assign (.tmp 263),4,"ref.go:118",#[⟨0,.data⟩],none⟩] false).seq (Code.cond (Operand.tmp 262) (Code.region 50 #[
  ⟨some 264,.fieldAddr 57 (.tmp 15) 1,0,"ref.go:119",#[],none⟩,
  ⟨some 265,.load 3 (.tmp 264),3,"ref.go:119",#[⟨0,.data⟩],none⟩,
  ⟨some 16,.assign (.tmp 265),3,"ref.go:119",#[⟨1,.data⟩,⟨0,.phase⟩,⟨1,.phase⟩],none⟩] false) ((Code.region 51 #[
  ⟨some 267,.binOp .eql 3 (.tmp 42) (.const (.int .i64 16)) 3,4,"ref.go:120",#[],none⟩,
  ⟨some 266,.assign (.tmp 267),4,"ref.go:120",#[⟨0,.data⟩],none⟩] false).seq (Code.cond (Operand.tmp 266) ((Code.region 52 #[
  ⟨some 268,.move (.tmp 13),139,"ref.go:121",#[],none⟩,
  ⟨some 269,.call ⟨.value (.tmp 268),#[],#[]⟩,27,"ref.go:121",#[⟨0,.data⟩],none⟩,
  ⟨some 24,.alloc 27,0,"ref.go:121",#[],none⟩,
  ⟨none,.store 27 (.tmp 24) (.tmp 269),0,"ref.go:121",#[⟨2,.data⟩,⟨1,.data⟩,⟨1,.chain⟩,⟨0,.phase⟩,⟨1,.phase⟩,⟨2,.phase⟩],none⟩] false).seq ((Code.region 53 #[
  ⟨some 270,.fieldAddr 27 (.tmp 24) 0,0,"ref.go:122",#[],none⟩,
  ⟨some 271,.load 3 (.tmp 270),3,"ref.go:122",#[⟨0,.data⟩],none⟩,
  ⟨some 272,.binOp .eql 3 (.tmp 271) (.const (.int .i64 1)) 3,4,"ref.go:122",#[⟨1,.data⟩],none⟩] false).seq (Code.cond (Operand.tmp 272) (Code.region 54 #[
  ⟨some 273,.fieldAddr 57 (.tmp 15) 1,0,"ref.go:123",#[],none⟩,
  ⟨some 274,.load 3 (.tmp 273),3,"ref.go:123",#[⟨0,.data⟩],none⟩,
  ⟨some 16,.assign (.tmp 274),3,"ref.go:123",#[⟨1,.data⟩,⟨0,.phase⟩,⟨1,.phase⟩],none⟩] false) ((Code.region 55 #[
  ⟨some 275,.fieldAddr 27 (.tmp 24) 0,0,"ref.go:124",#[],none⟩,
  ⟨some 276,.load 3 (.tmp 275),3,"ref.go:124",#[⟨0,.data⟩],none⟩,
  ⟨some 277,.binOp .neq 3 (.tmp 276) (.const (.int .i64 2)) 3,4,"ref.go:124",#[⟨1,.data⟩],none⟩] false).seq (Code.cond (Operand.tmp 277) (Code.region 56 #[
  ⟨some 278,.move (.tmp 0),42,"ref.go:125",#[],none⟩,
  ⟨some 279,.nilCheck (.tmp 278),0,"ref.go:125",#[⟨0,.data⟩,⟨0,.phase⟩],none⟩,
  ⟨some 280,.fieldAddr 91 (.tmp 279) 5,0,"ref.go:125",#[⟨1,.data⟩,⟨0,.phase⟩],none⟩,
  ⟨none,.store 33 (.tmp 280) (.const (.int .i64 11)),0,"ref.go:125",#[⟨2,.data⟩,⟨0,.phase⟩],none⟩] false) Code.skip))))) ((Code.region 57 #[
  ⟨some 282,.binOp .eql 3 (.tmp 42) (.const (.int .i64 17)) 3,4,"ref.go:127",#[],none⟩,
  ⟨some 281,.assign (.tmp 282),4,"ref.go:127",#[⟨0,.data⟩],none⟩] false).seq (Code.cond (Operand.tmp 281) ((Code.region 58 #[
  ⟨some 283,.move (.tmp 13),139,"ref.go:128",#[],none⟩,
  ⟨some 284,.call ⟨.value (.tmp 283),#[],#[]⟩,27,"ref.go:128",#[⟨0,.data⟩],none⟩,
  ⟨none,.store 27 (.tmp 10) (.tmp 284),0,"ref.go:128",#[⟨1,.data⟩,⟨1,.chain⟩,⟨0,.phase⟩,⟨1,.phase⟩],none⟩] false).seq Code.ret) Code.skip)))))))))))))))))))))))))))))))))
section
variable {p:Rp} {d:Nat} {T T1:Nat->Nat} {w wr W:World} {mb K:Nat} {R:Mc RSt × QV × Int} {av kv:Value} {gk G':Nat} {m:Mc RSt} {f:Fr} {c:Int} {n1 n2 n3 k:Nat} {x:QI} {hv sv ov:Value} {sa:Option Addr} {sc:Nat}
structure SwC (p:Rp)(d:Nat)(T:Nat->Nat)(w:World)(mb K:Nat)(R:Mc RSt × QV × Int)(av kv:Value)(gk G':Nat)(c:Int)(n1 n2 n3:Nat)(T1:Nat->Nat)(m:Mc RSt)(f:Fr)(wr W:World)(k:Nat)(x:QI)(hv sv ov:Value)(sa:Option Addr)(sc:Nat):Prop where
 X:Rx p
 en:xrD p d
 R:BdR p d T w mb K R av kv gk (.int .i64 (k:Int)) T1 m f 0 wr
 g:gk=G'+1
 nx:NxOk f k x
 mac:RMac p T1 wr mb m (20-(d:Int)) 0 hv sv ov
 fr:RF T1 K wr w.heap.size f av kv (.slice sa f.stack.length sc)
 scap:f.stack.length<=sc/\sc<=9223372036854775807
 len:xj9 c n1 n2 n3 f
 bel:Below wr.heap.size wr W
 inb:InB W wr.heap.size x
 av':∃ a cap,av=.slice a n1 cap/\cap<=9223372036854775807
 t40:n2<=40
 min:MIn p.E m/\Few m/\FOk p.X.cz m.heap.length f/\PlOk f
theorem SwC.pre {p:Rp}{d:Nat}{T:Nat->Nat}{w:World}{mb K:Nat}{R:Mc RSt × QV × Int}{av kv:Value}{gk G':Nat}{c:Int}{n1 n2 n3:Nat}{T1:Nat->Nat}{m:Mc RSt}{f:Fr}{wr W:World}{k:Nat}{x:QI}{hv sv ov:Value}{sa:Option Addr}{sc:Nat}(H:SwC p d T w mb K R av kv gk G' c n1 n2 n3 T1 m f wr W k x hv sv ov sa sc):Rx p/\Hid (xrD p d)/\Hid (BdR p d T w mb K R av kv gk (.int .i64 (k:Int)) T1 m f 0 wr)/\Hid (gk=G'+1)/\Hid (NxOk f k x)/\Hid (RMac p T1 wr mb m (20-(d:Int)) 0 hv sv ov)/\Hid (RF T1 K wr w.heap.size f av kv (.slice sa f.stack.length sc))/\Hid (xj9 c n1 n2 n3 f)/\Hid (Below wr.heap.size wr W)/\Hid (MIn p.E m/\Few m/\FOk p.X.cz m.heap.length f/\PlOk f)/\RMac p T1 W mb m (20-(d:Int)) 0 hv sv ov/\RF T1 K W w.heap.size f av kv (.slice sa f.stack.length sc)/\f.stack.length<=sc/\sc<=9223372036854775807/\w.heap.size+4<wr.heap.size/\wr.heap.size<=W.heap.size/\InB W wr.heap.size x/\(∃ a cap,av=.slice a n1 cap/\cap<=9223372036854775807)/\n2<=40:=
 ⟨H.X,hid H.en,hid H.R,hid H.g,hid H.nx,hid H.mac,hid H.fr,hid H.len,hid H.bel,hid H.min,H.mac.later H.bel,H.fr.later H.bel,H.scap.1,H.scap.2,xal H.fr.sb,H.bel.size,H.inb,H.av',H.t40⟩
def xrE (p:Rp)(d:Nat)(T:Nat->Nat)(w:World)(mb K:Nat)(R:Mc RSt × QV × Int)(av kv:Value)(G':Nat)(c:Int)(n1 n2 n3:Nat)(T1:Nat->Nat)(m:Mc RSt)(f:Fr)(wr:World)(k:Nat)(x:QI)(tg:Int)(w':World):Prop:=
 (tg=(k:Int)+1/\BdX p d T w mb K R av kv c n1 n2 n3 G' (.int .i64 ((k:Int)+1)) w')\/
 (tg=x.a/\x.op≠17/\∃ f1 T2 hv sv ov st,Ext T1 T2 wr/\Kp (All K) T1 wr w'/\RMac p T2 w' mb m (20-(d:Int)) 0 hv sv ov/\RF T2 K w' w.heap.size f1 av kv st/\xj9 c n1 n2 n3 f1/\xaj (xa4 p.E d) p.E d m { f with pc:=f.pc+1 } f.pc x=xaV m f1 k x.a)
end
def Br (n:Int):Prop:=
 ∀ {p:Rp} {d:Nat} {T T1:Nat->Nat} {w wr W:World} {mb K:Nat} {R:Mc RSt × QV × Int} {av kv:Value} {gk G':Nat} {m:Mc RSt} {f:Fr} {c:Int} {n1 n2 n3 k:Nat} {x:QI} {hv sv ov:Value} {sa:Option Addr} {sc:Nat} (H:SwC p d T w mb K R av kv gk G' c n1 n2 n3 T1 m f wr W k x hv sv ov sa sc) (hop:x.op=n)
  {u0 u1 u2 u3 u4 u5 u6 u7 u8 u9 ua ub uc ud ue uf ug uh ui uj uk ul um un uo up uq ur us ut uu uv uw ux uy uz ua0 ua1 ua2 ua3 ua4 ua5 ua6 ua7 ua8 ua9
  uaa uab uac uad uae uaf uag uah uai uaj uak ual uam uan uao uap uaq uar uas uat uau uav uaw uax uay uaz ub0 ub1 ub2 ub3 ub4 ub5 ub6 ub7 ub8 ub9 uba ubb ubc ubd ube ubf ubg ubh
  ubi ubj ubk ubl ubm ubn ubo ubp ubq ubr ubs ubt ubu ubv ubw ubx uby ubz uc0 uc1 uc2 uc3 uc4 uc5 uc6 uc7 uc8 uc9 uca ucb ucc ucd uce ucf ucg uch
  uci ucj uck ucl ucm ucn uco ucp ucq ucr ucs uct ucu ucv ucw ucx ucy ucz ud0 ud1 ud2 ud3 ud4 ud5 ud6 ud7 ud8 ud9 uda udb udc udd ude udf udg udh
  udi udj udk udl udm udn udo udp udq udr uds udt udu udv udw udx udy udz ue0 ue1 ue2 ue3 ue4 ue5 ue6 ue7 ue8 ue9 uea ueb uec ued uee uef ueg ueh
  uei uej uek uel uem uen ueo uep ueq uer ues uet ueu uev uew uex uey uez uf0 uf1 uf2 uf3 uf4 uf5 uf6 uf7 uf8 uf9 ufa ufb ufc ufd ufe uff ufg ufh
  ufi ufj ufk ufl ufm ufn ufo ufp ufq ufr ufs uft ufu ufv ufw ufx ufy ufz ug0 ug1 ug2 ug3 ug4 ug5 ug6 ug7 ug8 ug9 uga ugb ugc ugd uge ugf ugg ugh
  ugi ugj ugk ugl ugm ugn ugo ugp ugq ugr ugs ugt ugu ugv ugw ugx ugy ugz uh0 uh1 uh2 uh3:Value}
  {KT K2 K3:Act->World->Prop}
  (hN:∀ (u5 u6 u7 u8 u9 ua ub uc uu uv uw ux uy uz ua0 ua1 ua2 ua3 ua4 ua5 ua6 ua7 ua8 ua9 uaa uab uac uad uae uaf uag uah uai uaj uak ual uam uan uao uap uaq uar uas uat uau
  uav uaw uax uay uaz ub0 ub1 ub2 ub3 ub4 ub5 ub6 ub7 ub8 ub9 uba ubb ubc ubd ube ubf ubg ubh ubi ubj ubk ubl ubm ubn ubo ubp ubq ubr ubs ubt ubu ubv ubw ubx uby
  ubz uc0 uc1 uc2 uc3 uc4 uc5 uc6 uc7 uc8 uc9 uca ucb ucc ucd uce ucf ucg uch uci ucj uck ucl ucm ucn uco ucp ucq ucr ucs uct ucu ucv ucw ucx ucy
  ucz ud0 ud1 ud2 ud3 ud4 ud5 ud6 ud7 ud8 ud9 uda udb udc udd ude udf udg udh udi udj udk udl udm udn udo udp udq udr uds udt udu udv udw udx udy
  udz ue0 ue1 ue2 ue3 ue4 ue5 ue6 ue7 ue8 ue9 uea ueb uec ued uee uef ueg ueh uei uej uek uel uem uen ueo uep ueq uer ues uet ueu uev uew uex uey
  uez uf0 uf1 uf2 uf3 uf4 uf5 uf6 uf7 uf8 uf9 ufa ufb ufc ufd ufe uff ufg ufh ufi ufj ufk ufl ufm ufn ufo ufp ufq ufr ufs uft ufu ufv ufw ufx ufy
  ufz ug0 ug1 ug2 ug3 ug4 ug5 ug6 ug7 ug8 ug9 uga ugb ugc ugd uge ugf ugg ugh ugi ugj:Value) (tg:Int) (w':World),xrE p d T w mb K R av kv G' c n1 n2 n3 T1 m f wr k x tg w'->KT (Act.mk #[.pointer (some ⟨mb,0,none⟩),.int .i64 c,u0,u1,av,u2,u3,.pointer (some ⟨w.heap.size,0,none⟩),.pointer (some ⟨w.heap.size+1,0,none⟩),u4,.pointer (some
  ⟨w.heap.size+2,0,none⟩),.slice (some ⟨w.heap.size+3,0,none⟩) n2 n2,.pointer (some ⟨w.heap.size+4,0,none⟩),.func (.func 71) #[] #[.pointer (some ⟨w.heap.size+4,0,
  none⟩)],.int .i64 (k:Int),.pointer (some ⟨wr.heap.size,0,none⟩),.int .i64 tg,u5,u6,u7,u8,u9,ua,ub,uc,ud,ue,uf,ug,uh,ui,uj,uk,ul,um,un,
  uo,up,uq,ur,us,ut,.int .i64 n,uu,uv,uw,ux,uy,uz,ua0,ua1,ua2,ua3,ua4,ua5,ua6,ua7,ua8,ua9,uaa,uab,uac,uad,uae,uaf,uag,uah,uai,uaj,uak,
  ual,uam,uan,uao,uap,uaq,uar,uas,uat,uau,uav,uaw,uax,uay,uaz,ub0,ub1,ub2,ub3,ub4,ub5,ub6,ub7,ub8,ub9,uba,ubb,ubc,ubd,ube,ubf,ubg,ubh,ubi,ubj,
  ubk,ubl,ubm,ubn,ubo,ubp,ubq,ubr,ubs,ubt,ubu,ubv,ubw,ubx,uby,ubz,uc0,uc1,uc2,uc3,uc4,uc5,uc6,uc7,uc8,uc9,uca,ucb,ucc,ucd,
  uce,ucf,ucg,uch,uci,ucj,uck,ucl,ucm,ucn,uco,ucp,ucq,ucr,ucs,uct,ucu,ucv,ucw,ucx,ucy,ucz,ud0,ud1,ud2,ud3,ud4,ud5,ud6,ud7,
  ud8,ud9,uda,udb,udc,udd,ude,udf,udg,udh,udi,udj,udk,udl,udm,udn,udo,udp,udq,udr,uds,udt,udu,udv,udw,udx,udy,udz,ue0,ue1,
  ue2,ue3,ue4,ue5,ue6,ue7,ue8,ue9,uea,ueb,uec,ued,uee,uef,ueg,ueh,uei,uej,uek,uel,uem,uen,ueo,uep,ueq,uer,ues,uet,ueu,uev,
  uew,uex,uey,uez,uf0,uf1,uf2,uf3,uf4,uf5,uf6,uf7,uf8,uf9,ufa,ufb,ufc,ufd,ufe,uff,ufg,ufh,ufi,ufj,ufk,ufl,ufm,ufn,ufo,ufp,
  ufq,ufr,ufs,uft,ufu,ufv,ufw,ufx,ufy,ufz,ug0,ug1,ug2,ug3,ug4,ug5,ug6,ug7,ug8,ug9,uga,ugb,ugc,ugd,uge,ugf,ugg,ugh,ugi,ugj,
  ugk,ugl,ugm,ugn,ugo,ugp,ugq,ugr,ugs,ugt,ugu,ugv,ugw,ugx,ugy,ugz,uh0,uh1,uh2,uh3] []) w')
  {K9:Act->World->Prop} (hK9:∀ a w',Code.wp Tryz.prog sw9 (Exit.inBlock 2 (Exit.then KT (Exit.inBlock 1 (Exit.then K2 (Exit.inBlock 0 (Exit.then K3 (bodyPost Tryz.prog Tryz.f52 fun e w'=>xcT p T w mb (20-(d:Int)) K R e w'))))))) a w'->K9 a w'),
 Code.wp Tryz.prog xh4 (Exit.then K9 (Exit.inBlock 2 (Exit.then KT (Exit.inBlock 1 (Exit.then K2 (Exit.inBlock 0 (Exit.then K3 (bodyPost Tryz.prog Tryz.f52 fun e w'=>xcT p T w mb (20-(d:Int)) K R e w')))))))) (Act.mk #[.pointer (some ⟨mb,0,none⟩),.int .i64 c,u0,u1,av,u2,u3,.pointer (some ⟨w.heap.size,0,none⟩),.pointer (some ⟨w.heap.size+1,0,none⟩),u4,.pointer (some
  ⟨w.heap.size+2,0,none⟩),.slice (some ⟨w.heap.size+3,0,none⟩) n2 n2,.pointer (some ⟨w.heap.size+4,0,none⟩),.func (.func 71) #[] #[.pointer (some ⟨w.heap.size+4,0,
  none⟩)],.int .i64 (k:Int),.pointer (some ⟨wr.heap.size,0,none⟩),.int .i64 ((k:Int)+1),u5,u6,u7,u8,u9,ua,ub,uc,ud,ue,uf,ug,uh,ui,uj,uk,
  ul,um,un,uo,up,uq,ur,us,ut,.int .i64 n,uu,uv,uw,ux,uy,uz,ua0,ua1,ua2,ua3,ua4,ua5,ua6,ua7,ua8,ua9,uaa,uab,uac,uad,uae,uaf,uag,uah,
  uai,uaj,uak,ual,uam,uan,uao,uap,uaq,uar,uas,uat,uau,uav,uaw,uax,uay,uaz,ub0,ub1,ub2,ub3,ub4,ub5,ub6,ub7,ub8,ub9,uba,ubb,ubc,ubd,ube,ubf,ubg,
  ubh,ubi,ubj,ubk,ubl,ubm,ubn,ubo,ubp,ubq,ubr,ubs,ubt,ubu,ubv,ubw,ubx,uby,ubz,uc0,uc1,uc2,uc3,uc4,uc5,uc6,uc7,uc8,uc9,uca,
  ucb,ucc,ucd,uce,ucf,ucg,uch,uci,ucj,uck,ucl,ucm,ucn,uco,ucp,ucq,ucr,ucs,uct,ucu,ucv,ucw,ucx,ucy,ucz,ud0,ud1,ud2,ud3,ud4,
  ud5,ud6,ud7,ud8,ud9,uda,udb,udc,udd,ude,udf,udg,udh,udi,udj,udk,udl,udm,udn,udo,udp,udq,udr,uds,udt,udu,udv,udw,udx,udy,
  udz,ue0,ue1,ue2,ue3,ue4,ue5,ue6,ue7,ue8,ue9,uea,ueb,uec,ued,uee,uef,ueg,ueh,uei,uej,uek,uel,uem,uen,ueo,uep,ueq,uer,ues,
  uet,ueu,uev,uew,uex,uey,uez,uf0,uf1,uf2,uf3,uf4,uf5,uf6,uf7,uf8,uf9,ufa,ufb,ufc,ufd,ufe,uff,ufg,ufh,ufi,ufj,ufk,ufl,ufm,
  ufn,ufo,ufp,ufq,ufr,ufs,uft,ufu,ufv,ufw,ufx,ufy,ufz,ug0,ug1,ug2,ug3,ug4,ug5,ug6,ug7,ug8,ug9,uga,ugb,ugc,ugd,uge,ugf,ugg,
  ugh,ugi,ugj,ugk,ugl,ugm,ugn,ugo,ugp,ugq,ugr,ugs,ugt,ugu,ugv,ugw,ugx,ugy,ugz,uh0,uh1,uh2,uh3] []) W
set_option maxRecDepth 100000
theorem br1:Br 1:=by
 intro p d T T1 w wr W mb K R av kv gk G' m f c n1 n2 n3 k x hv sv ov sa sc H hop
 intros
 rename_i hN K9 hK9;obtain⟨hX,HEn,HR,HG,HX,HMa,HF,HL,HB1,HI,hM1,hF1,hsc1,hsc2,hBl,hWl,hxb,⟨aa,ca,rfl,hca⟩,ht40⟩:=H.pre;have HOP:=hid hop;clear hop;unfold xh4;unfold sw9 at hK9
 have HPU:Hid (xao m.heap { f with pc:=f.pc+1 } x=some f.self):=by
  show _=_
  have hop:x.op=1:=HOP.out;unfold xao
  simp[hop]
 have hst0:=hF1.st;have x1:=hxb.x1;have v0:=hF1.v0;have v1:=hF1.v1;have HSt:=hid hF1.stack;have hfw:=HX.out.few
 go_wp2_with (at_builtin;refine xbf rfl (.tmp 45) (.tmp 47) 28 27 _ 2 16 rfl Tryz.underlying28 xcg rfl (by omega) 0 f.stack.length (.slice sa f.stack.length sc) (xam f.stack) rfl (HSt.out.alloc _) W.heap.size rfl [.int .i64 f.self.k,.int .i64 f.self.n] rfl (qzJ _ _) (by intro u hu;simp only[List.mem_cons,List.not_mem_nil,or_false] at hu;rcases hu with h | h<;>(subst h;rfl)) (by unfold maxLen;omega) (by omega) (by omega) ?_;intro a' cap' w' r1 r2 r3 r4;have hbU:=xaf HB1.out (xak W (.cells #[.int .i64 f.self.k,.int .i64 f.self.n] 27));obtain⟨d0,df⟩:=xb8 HF.out hbU r4;have R1:=hid r1;have R2:=hid r2;have R3:=hid r3;have R4:=hid r4;have HBU:=hid hbU;clear r1 r2 r3 r4 hbU)
 exact Or.inl ⟨rfl,xcW hX HR.out HG.out HX.out HPU.out HMa.out HF.out HL.out HBU.out R1.out R2.out R3.out R4.out⟩
theorem br2:Br 2:=by
 intro p d T T1 w wr W mb K R av kv gk G' m f c n1 n2 n3 k x hv sv ov sa sc H hop
 intros
 rename_i hN K9 hK9;obtain⟨hX,HEn,HR,HG,HX,HMa,HF,HL,HB1,HI,hM1,hF1,hsc1,hsc2,hBl,hWl,hxb,⟨aa,ca,rfl,hca⟩,ht40⟩:=H.pre;have HOP:=hid hop;clear hop;unfold xh4;unfold sw9 at hK9;have hst0:=hF1.st;have x1:=hxb.x1;have hfw:=HX.out.few;obtain⟨ha0,ha1⟩:=HX.out.arg HOP.out;obtain⟨j,hj⟩:∃ j:Nat,x.a=(j:Int):=⟨x.a.toNat,by omega⟩
 have hl1:=HL.out.2.1;have hjl:j<f.args.length:=by omega
 have hy:f.args[j]?=some f.args[j]:=by simp[hjl]
 have HPU:Hid (xao m.heap { f with pc:=f.pc+1 } x=some f.args[j]):=by
  show _=_
  have hop:x.op=2:=HOP.out;unfold xao xaM
  simp[hop,hj,hjl]
  omega
 generalize f.args[j]=y at *;obtain⟨aa',ca',e',-,-,-,hrow⟩:=hF1.args;simp only[Value.slice.injEq] at e';obtain⟨rfl,-,-⟩:=e';obtain⟨ba,oa,rfl,-,y0,y1⟩:=hrow j y hy;simp only[Nat.add_zero] at y0;have hj1:(j:Int)<(n1:Int):=by omega
 have hj0:(0:Int)<=(j:Int):=by omega
 rw[hj] at x1;clear hrow hy ha0 ha1 hj;have hst0a:=qzA (xak W (.cells #[.int .i64 y.k,.int .i64 y.n] 27)) hst0;have hst:ownsAt (W.alloc (.cells #[.int .i64 y.k,.int .i64 y.n] 27)).drew 0 27 2 (.slice sa f.stack.length sc) f.stack.length (xam f.stack):=(hF1.stack.alloc _).keep fun g hg=>rfl
 obtain⟨v',w',hrun,r1,r2,r3,r4⟩:=xaL (w:=(W.alloc (.cells #[.int .i64 y.k,.int .i64 y.n] 27)).drew) 28 28 27 _ 2 16 Tryz.underlying28 xcg rfl (by omega) 0 f.stack.length (.slice sa f.stack.length sc) (xam f.stack) hst W.heap.size [.int .i64 y.k,.int .i64 y.n] rfl (qzJ W _) (by intro u hu;simp only[List.mem_cons,List.not_mem_nil,or_false] at hu;rcases hu with h | h<;>(subst h;rfl)) (by unfold maxLen;omega) (by omega) (by omega)
 obtain⟨a',cap',rfl,-⟩:=r1.form;have hbU:Below wr.heap.size wr (W.alloc (.cells #[.int .i64 y.k,.int .i64 y.n] 27)).drew:=xaf HB1.out (xak _ _).drew;obtain⟨d0,df⟩:=xb8 HF.out hbU r4;have R1:=hid r1;have R2:=hid r2;have R3:=hid r3;have R4:=hid r4;have HBU:=hid hbU;clear r1 r2 r3 r4 hbU hst hM1 hF1
 go_upto_region 12 with (fail)
 go_region_law (refine xaw rfl (.tmp 51) (.tmp 57) 28 rfl (.slice sa f.stack.length sc) (.slice (some ⟨W.heap.size,0,none⟩) 1 1) (.slice a' (f.stack.length+1) cap') (by simp[Act.eval,Act.put]) (by simp[Act.eval,Act.put]) hrun ?_)
 all_goals (
  go_wp2
  exact Or.inl ⟨rfl,xcW hX HR.out HG.out HX.out HPU.out HMa.out HF.out HL.out HBU.out R1.out R2.out R3.out R4.out⟩)
end Go.Proofs.YtaodadfahifbpaaGreat
