/- A part. -/
import Derived.Test.YtdfbgpiikeheiaaQ9
namespace Go.Proofs.Ytdfbgpiikeheiaa
open Go.ChangeShapes Go.WideShapes Go.ChangeAt Go.RowKit
set_option linter.unusedSimpArgs false
set_option linter.unusedVariables false
set_option maxHeartbeats 8000000
set_option maxRecDepth 8000
theorem xiL {P:Nat->Prop}{w:World}{v:Value}{xs:List QI}(h:xaR P w v xs):xaR (fun b=>P b/\b<w.heap.size) w v xs:=by
 obtain⟨ad,cap,h1,h2,h3,h4,h5⟩:=h;refine⟨ad,cap,h1,h2,h3,h4,fun i x hx=>?_⟩
 obtain⟨b,o,e1,e2,e3⟩:=h5 i x hx
 exact⟨b,o,e1,⟨e2,World.block_lt_of_cell? _ _ e3.1⟩,e3⟩
def xmb:Lay Fst:=fun P w f x=>f 0=some (.int .i64 x.cls)/\f 1=some (.string x.name)/\f 2=some (.int .i64 x.ez)/\f 3=some (.int .i64 x.temps)/\∃ v,f 4=some v/\xaR P w v x.code
abbrev xdl:=IsRow xmb 5 64
theorem xhR:Good xmb 5 where
 move h hl hk hf:=by
  obtain⟨h0,h1,h2,h3,v,h5,h6⟩:=h
  exact⟨hf 0 (by omega) _ h0,hf 1 (by omega) _ h1,hf 2 (by omega) _ h2,hf 3 (by omega) _ h3,v,hf 4 (by omega) _ h5,h6.keep xa2 hk hl⟩
 there h k hk:=by
  obtain⟨h0,h1,h2,h3,v,h4,⟨a,c,rfl,-⟩⟩:=h
  match k,hk with
  | 0,_=>exact⟨_,h0,rfl⟩
  | 1,_=>exact⟨_,h1,rfl⟩
  | 2,_=>exact⟨_,h2,rfl⟩
  | 3,_=>exact⟨_,h3,rfl⟩
  | 4,_=>exact⟨_,h4,rfl⟩
 pos:=by omega
theorem xsK:(Try.prog.info? 62).map (fun i=>(i.zero,i.size,i.bytes))=some (some (.agg #[.int .i64 0,.string ⟨#[]⟩,.int .i64 0,.int .i64 0,.slice none 0 0]),5,64):=by kernel_rfl
def xjc (X:QW)(c:Nat):Nat:=match X.cz[c]? with
 | some x=>x.mz.length
 | none=>0
theorem xjK {X:QW}(h:xaH X=0)(c:Nat):xjc X c<=8:=by
 unfold xjc
 cases hx:X.cz[c]? with
 | none=>simp
 | some x=>
  simp only;obtain⟨-,-,hM,-⟩:=xcl h;have h1:=hM c x (xae hx) hx;unfold rkE at h1
  split at h1
  ·cases h1
  ·split at h1
   ·cases h1
   ·omega
theorem xnm {X:QW}(h:xaH X=0):X.cz.length<=12:=by
 unfold xaH at h
 split at h
 ·cases h
 ·omega
structure FaL (Z:World)(B:Nat)(fs:List Fst)(cs:List Value)(v:Value)(wr:World):Prop where
 bel:Below B Z wr
 sz:B<=wr.heap.size
 own:ownsAt wr B 62 5 v fs.length cs
 row:Cells xmb 5 (fun b=>B<=b/\v.ownBlock≠some b) wr cs fs
theorem xhi {P Q:Nat->Prop}{wr w':World}{cs:List Value}{fs:List Fst}(h:Cells xmb 5 P wr cs fs)(hk:∀ b,P b->b<wr.heap.size->w'.heap[b]?=wr.heap[b]?)(hl:∀ b,P b->b<wr.heap.size->Q b):Cells xmb 5 Q w' cs fs:=
 ⟨h.1,fun i x hx=>by
  obtain⟨a0,a1,a2,a3,v,a4,hc⟩:=h.2 i x hx
  exact⟨a0,a1,a2,a3,v,a4,(xiL hc).keep xa2 (Keeps.of_block fun b hb hl'=>hk b hb.1 hl') fun b hb=>hl b hb.1 hb.2⟩⟩
section
variable {Z:World} {B:Nat} {fs:List Fst} {cs:List Value} {v:Value} {wr w':World}
theorem FaL.later (h:FaL Z B fs cs v wr)(hb:Below wr.heap.size wr w'):FaL Z B fs cs v w':=
 ⟨h.bel.trans ⟨hb.os,hb.tape,hb.output,hb.size,fun b hb'=>hb.block b (by have:=h.sz;omega)⟩,qzD h.sz hb.size,h.own.keep fun g hg=>hb.block g (h.own.lt g hg).2,h.row.later xhR hb⟩
theorem FaL.add (h:FaL Z B fs cs v wr){f:Fst}{kv v':Value}{L:Nat}{P:Nat->Prop}(hkv:xaR P wr kv f.code)(hP:∀ b,P b->L<=b)(hL:B<=L)(hv:∀ g,v.ownBlock=some g->g<L)(r1:ownsAt w' B 62 5 v' (fs.length+1) (cs++[.int .i64 f.cls,.string f.name,.int .i64 f.ez,.int .i64 f.temps,kv]))(r2:v'.ownBlock=v.ownBlock\/∃ g,v'.ownBlock=some g/\wr.heap.size<=g)(r3:Below B wr w')(r4:∀ b,b<wr.heap.size->some b≠v.ownBlock->w'.heap[b]?=wr.heap[b]?):FaL Z B (fs++[f]) (cs++[.int .i64 f.cls,.string f.name,.int .i64 f.ez,.int .i64 f.temps,kv]) v' w':=by
 have hnew:∀ b,b<wr.heap.size->v.ownBlock≠some b->v'.ownBlock≠some b:=fun b hb hne=>by
  rcases r2 with r2 | ⟨g',e,hl⟩
  ·rw[r2];exact hne
  ·rw[e];intro e';cases e';exact absurd hb (by omega)
 refine⟨h.bel.trans r3,qzD h.sz r3.size,by simpa using r1,?_⟩
 refine (xhi h.row (fun b hb hl=>r4 b hl fun e=>hb.2 e.symm) fun b hb hl=>⟨hb.1,hnew b hl hb.2⟩).append xhR (Cells.one xhR rfl ?_)
 refine⟨rfl,rfl,rfl,rfl,kv,rfl,(xiL hkv).keep xa2 (Keeps.of_block fun b hb hl=>r4 b hl fun e=>by have:=hv b e.symm;have:=hP b hb.1;omega) fun b hb=>⟨by have:=hP b hb.1;omega,hnew b hb.2 fun e=>by have:=hv b e;have:=hP b hb.1;omega⟩⟩
theorem FaL.fasts (h:FaL Z B fs cs v wr)(hl:fs.length<=1000):xdl (fun b=>B<=b) wr v fs:=
 xf6 xhR h.own (xhi h.row (fun _ _ _=>rfl) fun b hb _=>hb.1) rfl (fun b h1 _=>h1) (by omega)
theorem FaL.form (h:FaL Z B fs cs v wr):∃ a cap,v=.slice a fs.length cap/\fs.length<=cap/\cap<=9223372036854775807:=by
 obtain⟨a,cap,e,h1,h2⟩:=h.own.form;unfold maxLen at h2
 exact⟨a,cap,e,h1,by omega⟩
end
section
variable {σ:Type}
def xbO (f:Fr):Option QI:=if f.pc<0 then none else f.code[f.pc.toNat]?
theorem xfe {f:Fr}{x:QI}(h:xbO f=some x):0<=f.pc/\f.pc.toNat<f.code.length/\f.code[f.pc.toNat]?=some x:=by
 unfold xbO at h
 split at h
 ·cases h
 ·exact⟨by omega,xae h,h⟩
theorem xdp {ent:Ent σ}{E:Env σ}{d:Nat}{m:Mc σ}{f:Fr}(h:xbO f=none):∀ g,xb7 ent E d g m f=(m,xaU,9)
 | 0=>rfl
 | g+1=>by
  have h':(if f.pc<0 then none else f.code[f.pc.toNat]?)=none:=h;rw[xb7,h']
theorem xdU {ent:Ent σ}{E:Env σ}{d:Nat}{m:Mc σ}{f:Fr}{x:QI}(h:xbO f=some x)(h17:x.op=17)(g:Nat):xb7 ent E d (g+1) m f=(m,f.top,0):=by
 have h':(if f.pc<0 then none else f.code[f.pc.toNat]?)=some x:=h;rw[xb7,h']
 simp[h17]
theorem xdg {ent:Ent σ}{E:Env σ}{d:Nat}{m:Mc σ}{f:Fr}{x:QI}(h:xbO f=some x)(h17:x.op≠17)(g:Nat):xb7 ent E d (g+1) m f=if (xaj ent E d m { f with pc:=f.pc+1 } f.pc x).2.2≠0 then ((xaj ent E d m { f with pc:=f.pc+1 } f.pc x).1,xaU,(xaj ent E d m { f with pc:=f.pc+1 } f.pc x).2.2) else xb7 ent E d g (xaj ent E d m { f with pc:=f.pc+1 } f.pc x).1 (xaj ent E d m { f with pc:=f.pc+1 } f.pc x).2.1:=by
 have h':(if f.pc<0 then none else f.code[f.pc.toNat]?)=some x:=h;rw[xb7,h'];simp only[if_neg h17]
theorem xiA {m:Mc σ}{f:Fr}{x:QI}(h:xbO f=some x):1<=muE m f:=by
 obtain⟨h0,h1,-⟩:=xfe h;unfold muE;omega
theorem xqn {m:Mc σ}{f:Fr}(h:muE m f=0):xbO f=none:=by
 cases e:xbO f with
 | none=>rfl
 | some x=>have:=xiA (m:=m) e;omega
theorem xlS {ent:Ent σ}(ht:xbt ent)(E:Env σ)(d:Nat):∀ (n:Nat) (m:Mc σ) (f:Fr),0<=m.tz->muE m f<=n->∀ g,muE m f<=g->xb7 ent E d g m f=xb7 ent E d n m f
 | 0,m,f,h0,hn,g,hg=>by
  have hz:=xqn (show muE m f=0 by omega)
  rw[xdp hz,xdp hz]
 | n+1,m,f,h0,hn,g,hg=>by
  cases hf:xbO f with
  | none=>rw[xdp hf,xdp hf]
  | some x=>
   have hp:=xiA (m:=m) hf;obtain⟨g',rfl⟩:∃ g',g=g'+1:=⟨g-1,by omega⟩
   by_cases h17:x.op=17
   ·rw[xdU hf h17,xdU hf h17]
   ·obtain⟨p0,p1,-⟩:=xfe hf;rw[xdg hf h17,xdg hf h17];have hst:=xc9 ht E d m { f with pc:=f.pc+1 } f.pc x
    have hmu:=xgc ht (E:=E) (d:=d) h0 p0 p1 (x:=x);generalize xaj ent E d m { f with pc:=f.pc+1 } f.pc x=r at hst hmu ⊢
    by_cases he:r.2.2≠0
    ·rw[if_pos he,if_pos he]
    ·rw[if_neg he,if_neg he];have:=hmu (by omega)
     exact xlS ht E d n r.1 r.2.1 (by omega) (by omega) g' (by omega)
def goE (ent:Ent σ)(E:Env σ)(d:Nat)(m:Mc σ)(f:Fr):Mc σ × QV × Int:=xb7 ent E d (muE m f) m f
theorem xkm {ent:Ent σ}(ht:xbt ent)(E:Env σ)(d:Nat){m:Mc σ}{f:Fr}(h0:0<=m.tz){g:Nat}(hg:muE m f<=g):xb7 ent E d g m f=goE ent E d m f:=xlS ht E d _ m f h0 (qzC _) g hg
theorem xjq {ent:Ent σ}{E:Env σ}{d:Nat}{m:Mc σ}{f:Fr}{x:QI}(h:xbO f=some x)(h17:x.op=17):goE ent E d m f=(m,f.top,0):=by
 have hp:=xiA (m:=m) h;unfold goE;obtain⟨g,hg⟩:∃ g,muE m f=g+1:=⟨muE m f-1,by omega⟩
 rw[hg]
 exact xdU h h17 g
theorem xfQ {ent:Ent σ}{E:Env σ}{d:Nat}{m:Mc σ}{f:Fr}{x:QI}(h:xbO f=some x)(h17:x.op≠17)(he:(xaj ent E d m { f with pc:=f.pc+1 } f.pc x).2.2≠0):goE ent E d m f=((xaj ent E d m { f with pc:=f.pc+1 } f.pc x).1,xaU,(xaj ent E d m { f with pc:=f.pc+1 } f.pc x).2.2):=by
 have hp:=xiA (m:=m) h;unfold goE;obtain⟨g,hg⟩:∃ g,muE m f=g+1:=⟨muE m f-1,by omega⟩
 rw[hg,xdg h h17,if_pos he]
theorem xhB {ent:Ent σ}(ht:xbt ent){E:Env σ}{d:Nat}{m:Mc σ}{f:Fr}(h0:0<=m.tz){x:QI}(h:xbO f=some x)(h17:x.op≠17)(he:(xaj ent E d m { f with pc:=f.pc+1 } f.pc x).2.2=0):goE ent E d m f=goE ent E d (xaj ent E d m { f with pc:=f.pc+1 } f.pc x).1 (xaj ent E d m { f with pc:=f.pc+1 } f.pc x).2.1/\muE (xaj ent E d m { f with pc:=f.pc+1 } f.pc x).1 (xaj ent E d m { f with pc:=f.pc+1 } f.pc x).2.1<muE m f/\0<=(xaj ent E d m { f with pc:=f.pc+1 } f.pc x).1.tz:=by
 have hp:=xiA (m:=m) h;obtain⟨p0,p1,-⟩:=xfe h;have hmu:=xgc ht (E:=E) (d:=d) h0 p0 p1 (x:=x) he;have hst:=xc9 ht E d m { f with pc:=f.pc+1 } f.pc x
 refine⟨?_,hmu,by omega⟩
 show xb7 ent E d (muE m f) m f=_
 obtain⟨g,hg⟩:∃ g,muE m f=g+1:=⟨muE m f-1,by omega⟩
 rw[hg,xdg h h17,if_neg (by omega)]
 exact xkm ht E d (by omega) (by omega)
end
section
variable {σ:Type} {ent:Ent σ} {E:Env σ} {d:Nat} {m:Mc σ} {f:Fr} {at':Int} {x:QI}
theorem xdo {v:QV}(e:xao m.heap f x=some v):xaj ent E d m f at' x=(m,f.push v,0):=by
 unfold xaj;rw[e]
theorem xcb (h:x.op<1\/8<x.op):xao m.heap f x=none:=by
 unfold xao
 simp[show ¬ x.op=1 by omega,show ¬ x.op=2 by omega,show ¬ x.op=3 by omega,show ¬ x.op=4 by omega,show ¬ x.op=5 by omega,show ¬ x.op=6 by omega,show ¬ x.op=7 by omega,show ¬ x.op=8 by omega]
theorem xhq (h:x.op=9):xaj ent E d m f at' x=(m,f.pop,0):=by
 unfold xaj;rw[xcb (by omega)];simp[h]
theorem xhr (h:x.op=10):xaj ent E d m f at' x=(m,f.push f.top,0):=by
 unfold xaj;rw[xcb (by omega)];simp[h]
theorem xgo (h:x.op=11):xaj ent E d m f at' x=(m,{ f.pop with temps:=xaW f.temps x.a f.top },0):=by
 unfold xaj;rw[xcb (by omega)];simp[h]
theorem xjb (h:x.op=12):xaj ent E d m f at' x=({ m with heap:=xaX m.heap f.self x.a f.top },f.pop,0):=by
 unfold xaj;rw[xcb (by omega)];simp[h]
theorem xmr (h:x.op=13):xaj ent E d m f at' x=xbV E m f x.a:=by
 unfold xaj;rw[xcb (by omega)];simp[h]
theorem xhA (h:x.op=14):xaj ent E d m f at' x=xbD ent E m f at' x:=by
 unfold xaj;rw[xcb (by omega)];simp[h]
theorem xeg (h:x.op=15):xaj ent E d m f at' x=xaV m f at' x.a:=by
 unfold xaj;rw[xcb (by omega)];simp[h]
theorem xe6 (h:x.op=16):xaj ent E d m f at' x=xbz m f at' x.a:=by
 unfold xaj;rw[xcb (by omega)];simp[h]
theorem xgn (h:18<=x.op):xaj ent E d m f at' x=xbQ E d m f x:=by
 unfold xaj;rw[xcb (by omega)]
 simp[show ¬ x.op=9 by omega,show ¬ x.op=10 by omega,show ¬ x.op=11 by omega,show ¬ x.op=12 by omega,show ¬ x.op=13 by omega,show ¬ x.op=14 by omega,show ¬ x.op=15 by omega,show ¬ x.op=16 by omega]
def TOk (m:Mc σ):Prop:=0<=m.tz/\m.tz<=300
def xia (ent:Ent σ):Prop:=∀ m c n s a,TOk m->(ent m c n s a).2.2=0->TOk (ent m c n s a).1
theorem xbL (m:Mc σ)(f:Fr)(a b:Int)(h:TOk m):(b<=a/\m.tz=300/\xaV m f a b=({ m with tz:=m.tz+1 },f,16))\/(b<=a/\m.tz<300/\xaV m f a b=({ m with tz:=m.tz+1 },{ f with pc:=b },0))\/(a<b/\xaV m f a b=(m,{ f with pc:=b },0)):=by
 obtain⟨h0,h1⟩:=h;unfold xaV
 by_cases hb:b<=a
 ·simp only[hb,if_true]
  by_cases h3:m.tz=300
  ·left;refine⟨trivial,h3,?_⟩;rw[if_pos (by omega)]
  ·right;left;refine⟨trivial,by omega,?_⟩;rw[if_neg (by omega)]
 ·right;right
  simp only[hb,if_false]
  exact⟨by omega,by rw[if_neg (by omega)]⟩
theorem xkd {a b:Int}(h:TOk m)(h0:(xaV m f a b).2.2=0):TOk (xaV m f a b).1:=by
 have h':=h;obtain⟨t0,t1⟩:=h
 rcases xbL m f a b h' with ⟨-,-,e⟩ | ⟨-,ht,e⟩ | ⟨-,e⟩
 ·rw[e] at h0;simp at h0
 ·rw[e];exact⟨by simp;omega,by simp;omega⟩
 ·rw[e];exact h'
theorem xc6 (h:TOk m):TOk (xau E d m).1:=by
 have:=xec E d m;unfold TOk at h ⊢
 omega
theorem xfK (he:xia ent)(h:TOk m)(h0:(xaj ent E d m f at' x).2.2=0):TOk (xaj ent E d m f at' x).1:=by
 unfold xaj at h0 ⊢
 split
 ·exact h
 ·rename_i hp;rw[hp] at h0;simp only at h0
  split
  ·exact h
  ·split
   ·exact h
   ·split
    ·exact h
    ·split
     ·exact h
     ·rename_i n9 n10 n11 n12;rw[if_neg n9,if_neg n10,if_neg n11,if_neg n12] at h0
      split
      ·unfold xbV;split<;>exact h
      ·rename_i n13;rw[if_neg n13] at h0
       split
       ·rename_i n14;rw[if_pos n14] at h0;unfold xbD at h0 ⊢;simp only at h0 ⊢;generalize hl:E.look m.st (f.site at' x) (xas m.heap (xaQ (f.stack.take (xbp f.stack x.a)) 0)) x.name=l at h0 ⊢;have hr:=he { m with st:=l.1 } l.2.1 l.2.2 (xaQ (f.stack.take (xbp f.stack x.a)) 0) (f.stack.drop (xbp f.stack x.a)) h
        generalize ent { m with st:=l.1 } l.2.1 l.2.2 (xaQ (f.stack.take (xbp f.stack x.a)) 0) (f.stack.drop (xbp f.stack x.a))=r at hr h0 ⊢
        by_cases hz:r.2.2≠0
        ·rw[if_pos hz] at h0;exact absurd h0 hz
        ·rw[if_neg hz];exact hr (by omega)
       ·rename_i n14;rw[if_neg n14] at h0
        split
        ·rename_i n15;rw[if_pos n15] at h0
         exact xkd h h0
        ·rename_i n15;rw[if_neg n15] at h0
         split
         ·rename_i n16;rw[if_pos n16] at h0;unfold xbz at h0 ⊢
          split
          ·exact h
          ·rename_i k2;rw[if_neg k2] at h0
           split
           ·rename_i k1;rw[if_pos k1] at h0
            exact xkd h h0
           ·exact h
         ·unfold xbQ
          split
          ·exact h
          ·split
           ·exact h
           ·split
            ·exact h
            ·split
             ·exact h
             ·split
              ·exact xc6 h
              ·exact h
theorem xmy (he:xia ent)(E:Env σ)(d:Nat):∀ (g:Nat) (m:Mc σ) (f:Fr),TOk m->(xb7 ent E d g m f).2.2=0->TOk (xb7 ent E d g m f).1
 | 0,m,f,h,h0=>h
 | g+1,m,f,h,h0=>by
  cases hf:xbO f with
  | none=>rw[xdp hf];exact h
  | some x=>
   by_cases h17:x.op=17
   ·rw[xdU hf h17];exact h
   ·rw[xdg hf h17] at h0 ⊢;have hs:=xfK (E:=E) (d:=d) (f:={ f with pc:=f.pc+1 }) (at':=f.pc) (x:=x) he h
    generalize xaj ent E d m { f with pc:=f.pc+1 } f.pc x=r at hs h0 ⊢
    by_cases hz:r.2.2≠0
    ·rw[if_pos hz] at h0;exact absurd h0 hz
    ·rw[if_neg hz] at h0 ⊢
     exact xmy he E d g r.1 r.2.1 (hs (by omega)) h0
theorem xiq (E:Env σ)(d:Nat){body:Mc σ->Fr->Mc σ × QV × Int}(hb:∀ m f,TOk m->(body m f).2.2=0->TOk (body m f).1):xia (xbc E d body):=by
 intro m c n s a h h0;unfold xbc at h0 ⊢
 split
 ·exact h
 ·rename_i mt hm;rw[hm] at h0;simp only at h0
  split
  ·exact h
  ·rename_i k1;rw[if_neg k1] at h0
   split
   ·split<;>exact h
   ·rename_i k2;rw[if_neg k2] at h0
    split
    ·exact h
    ·rename_i k3;rw[if_neg k3] at h0
     exact hb _ _ (xc6 h) h0
theorem xf7 (E:Env σ):∀ d:Nat,xia (xa4 E d)
 | 0=>xiq E 0 fun m f h h0=>h
 | d+1=>xiq E (d+1) fun m f h h0=>xmy (xf7 E d) E d _ m f h h0
end
theorem xb9 (l:List QV)(n:Nat):xaM l (n:Int)=l[n]?.getD xaU:=by unfold xaM;rw[if_neg (by omega)];simp
theorem xfM {l:List QV}{n:Int}{k:Nat}{v:QV}(hn:n=(k:Int))(h:l[k]?=some v):xaM l n=v:=by subst hn;rw[xb9,h];rfl
theorem xgg (base s:List QV)(hs:s≠[]):xaQ (base++s) 0=xaQ s 0:=by
 have hl:0<s.length:=List.length_pos_iff.2 hs;unfold xaQ;rw[show (((base++s).length:Int)-1-0)=((base.length+(s.length-1):Nat):Int) by rw[List.length_append];omega,show ((s.length:Int)-1-0)=((s.length-1:Nat):Int) by omega,xb9,xb9,List.getElem?_append_right (by omega)]
 congr 2;omega
theorem xes (base s:List QV)(hs:s≠[]):(base++s).dropLast=base++s.dropLast:=List.dropLast_append_of_ne_nil hs
theorem xbS (l:List QV)(n:Nat)(v:QV):xaW l (n:Int) v=l.set n v:=by unfold xaW;rw[if_neg (by omega)];simp
theorem xo0 {l:List QV}{n t:Nat}(h:t<=n)(v:QV):(l.set n v).take t=l.take t:=by
 apply List.ext_getElem?
 intro i;rw[List.getElem?_take,List.getElem?_take]
 split
 ·rw[List.getElem?_set_ne (by omega)]
 ·rfl
structure LfP (LC FC:List QI)(T0 A first:Nat)(base:List QV)(f0 ff lf:Fr):Prop where
 fast:ff.fast=true
 code:ff.code=FC
 cls:ff.cls=f0.cls
 meth:ff.meth=f0.meth
 self:ff.self=f0.self
 args:ff.args=f0.args
 len:ff.temps.length=f0.temps.length
 take:ff.temps.take T0=f0.temps.take T0
 pl:PlOk lf
 lcode:lf.code=LC
 alen:lf.args.length=A
 pc:ff.pc=(first:Int)+lf.pc
 stack:ff.stack=base++lf.stack
 tself:ff.temps[T0]?=some lf.self
 targs:∀ (i:Nat) v,lf.args[i]?=some v->ff.temps[T0+1+i]?=some v
 ttemps:∀ (i:Nat) v,lf.temps[i]?=some v->ff.temps[T0+1+A+i]?=some v
section
variable {LC FC:List QI} {T0 A first:Nat} {base:List QV} {f0 ff lf:Fr}
theorem LfP.to (h:LfP LC FC T0 A first base f0 ff lf){ff' lf':Fr}(pl:PlOk lf')(e0:lf'.code=lf.code)(e1:lf'.self=lf.self)(e2:lf'.args=lf.args)(e3:lf'.temps=lf.temps)(d1:ff'.fast=ff.fast)(d2:ff'.code=ff.code)(d3:ff'.cls=ff.cls)(d4:ff'.meth=ff.meth)(d5:ff'.self=ff.self)(d6:ff'.args=ff.args)(d7:ff'.temps=ff.temps)(hp:ff'.pc=(first:Int)+lf'.pc)(hs:ff'.stack=base++lf'.stack):LfP LC FC T0 A first base f0 ff' lf':=
 ⟨d1.trans h.fast,d2.trans h.code,d3.trans h.cls,d4.trans h.meth,d5.trans h.self,d6.trans h.args,by rw[d7];exact h.len,by rw[d7];exact h.take,pl,e0.trans h.lcode,by rw[e2];exact h.alen,hp,hs,by rw[d7,e1];exact h.tself,by rw[d7,e2];exact h.targs,by rw[d7,e3];exact h.ttemps⟩
variable {σ:Type} {ent ent':Ent σ} {E E':Env σ} {d d':Nat} {m:Mc σ}
def xr1 (LC FC:List QI)(T0 A first:Nat)(base:List QV)(f0:Fr)(r2 r:Mc σ × Fr × Int):Prop:=r2.1=r.1/\r2.2.2=r.2.2/\(r.2.2=0->LfP LC FC T0 A first base f0 r2.2.1 r.2.1)
theorem xiI (h:LfP LC FC T0 A first base f0 ff lf)(ht:TOk m){ff1 lf1:Fr}{a:Int}(e0:lf1.code=lf.code)(e1:lf1.self=lf.self)(e2:lf1.args=lf.args)(e3:lf1.temps=lf.temps)(d1:ff1.fast=ff.fast)(d2:ff1.code=ff.code)(d3:ff1.cls=ff.cls)(d4:ff1.meth=ff.meth)(d5:ff1.self=ff.self)(d6:ff1.args=ff.args)(d7:ff1.temps=ff.temps)(hs:ff1.stack=base++lf1.stack)(PL:(xaV m lf1 lf.pc a).2.2=0->PlOk (xaV m lf1 lf.pc a).2.1) :
  xr1 LC FC T0 A first base f0 (xaV m ff1 ff.pc ((first:Int)+a)) (xaV m lf1 lf.pc a):=by
 have hp:=h.pc
 rcases xbL m lf1 lf.pc a ht with ⟨k1,k2,k3⟩ | ⟨k1,k2,k3⟩ | ⟨k1,k3⟩
 ·rcases xbL m ff1 ff.pc ((first:Int)+a) ht with ⟨j1,j2,j3⟩ | ⟨j1,j2,j3⟩ | ⟨j1,j3⟩
  ·rw[k3,j3];exact⟨rfl,rfl,fun h=>by simp at h⟩
  ·omega
  ·omega
 ·rcases xbL m ff1 ff.pc ((first:Int)+a) ht with ⟨j1,j2,j3⟩ | ⟨j1,j2,j3⟩ | ⟨j1,j3⟩
  ·omega
  ·rw[k3] at PL;rw[k3,j3]
   exact⟨rfl,rfl,fun _=>h.to (PL rfl) e0 e1 e2 e3 d1 d2 d3 d4 d5 d6 d7 rfl hs⟩
  ·omega
 ·rcases xbL m ff1 ff.pc ((first:Int)+a) ht with ⟨j1,j2,j3⟩ | ⟨j1,j2,j3⟩ | ⟨j1,j3⟩
  ·omega
  ·omega
  ·rw[k3] at PL;rw[k3,j3]
   exact⟨rfl,rfl,fun _=>h.to (PL rfl) e0 e1 e2 e3 d1 d2 d3 d4 d5 d6 d7 rfl hs⟩
theorem xmj (h:LfP LC FC T0 A first base f0 ff lf)(ht:TOk m){j:Nat}{x:QI}(hx:NxOk lf j x)(h17:x.op≠17)(h13:x.op≠13)(h14:x.op≠14)(behind:Int) :
  xr1 LC FC T0 A first base f0 (xaj ent E d m { ff with pc:=ff.pc+1 } ff.pc (xay T0 (T0+1) (T0+1+A) first behind x)) (xaj ent' E' d' m { lf with pc:=lf.pc+1 } lf.pc x):=by
 have hA:=h.alen;have PL:=xhN (ent:=ent') (E:=E') (d:=d') (m:=m) h.pl hx h17;have hk:=hx.kind;have hneed:=hx.need;have hpc1:ff.pc+1=(first:Int)+(lf.pc+1):=by have:=h.pc;omega
 have push:∀ (v:QV),xao m.heap { lf with pc:=lf.pc+1 } x=some v->xao m.heap { ff with pc:=ff.pc+1 } (xay T0 (T0+1) (T0+1+A) first behind x)=some v->xr1 LC FC T0 A first base f0 (xaj ent E d m { ff with pc:=ff.pc+1 } ff.pc (xay T0 (T0+1) (T0+1+A) first behind x)) (xaj ent' E' d' m { lf with pc:=lf.pc+1 } lf.pc x):=fun v e1 e2=>by
  rw[xdo e1] at PL;rw[xdo e1,xdo e2]
  exact⟨rfl,rfl,fun _=>h.to (PL rfl) rfl rfl rfl rfl rfl rfl rfl rfl rfl rfl rfl hpc1 (by simp[Fr.push,h.stack])⟩
 have hself:xaM ff.temps (T0:Int)=lf.self:=xfM rfl h.tself
 rcases (by omega:x.op=1\/x.op=2\/x.op=3\/x.op=4\/x.op=5\/x.op=6\/x.op=7\/x.op=8\/x.op=9\/x.op=10\/x.op=11\/x.op=12\/x.op=15\/x.op=16) with o | o | o | o | o | o | o | o | o | o | o | o | o | o
 ·refine push lf.self (by simp[xao,o]) ?_
  simp[xay,o,xao,hself]
 ·obtain⟨a0,a1⟩:=hx.arg o;obtain⟨k,hk⟩:∃ k:Nat,x.a=(k:Int):=⟨x.a.toNat,by omega⟩
  have hv:lf.args[k]?=some lf.args[k]:=List.getElem?_eq_getElem (by omega)
  refine push (lf.args[k]) ?_ ?_
  ·simp only[xao,o,hk]
   simp[xb9,hv]
  ·have:=xfM (n:=(T0:Int)+1+x.a) (k:=T0+1+k) (by omega) (h.targs k _ hv)
   simp[xay,o,xao,this]
 ·obtain⟨a0,a1⟩:=hx.temp (Or.inl o);obtain⟨k,hk⟩:∃ k:Nat,x.a=(k:Int):=⟨x.a.toNat,by omega⟩
  have hv:lf.temps[k]?=some lf.temps[k]:=List.getElem?_eq_getElem (by omega)
  refine push (lf.temps[k]) ?_ ?_
  ·simp only[xao,o,hk]
   simp[xb9,hv]
  ·have:=xfM (n:=(T0:Int)+1+A+x.a) (k:=T0+1+A+k) (by omega) (h.ttemps k _ hv)
   simp[xay,o,xao,this]
 ·have e1:xao m.heap { lf with pc:=lf.pc+1 } x=some (xcF m.heap lf.self x.a):=by simp[xao,o]
  rw[xdo e1] at PL;rw[xdo e1];have e2:xay T0 (T0+1) (T0+1+A) first behind x=ins 19 T0 x.a 0:=by simp[xay,o]
  rw[e2,xgn (by simp)]
  refine⟨?_,?_,fun _=>?_⟩
  ·simp[xbQ,h.fast]
  ·simp[xbQ,h.fast]
  ·have e3:(xbQ E d m { ff with pc:=ff.pc+1 } (ins 19 (T0:Int) x.a 0)).2.1=Fr.push { ff with pc:=ff.pc+1 } (xcF m.heap lf.self x.a):=by simp[xbQ,h.fast,hself]
   rw[e3]
   exact h.to (PL rfl) rfl rfl rfl rfl rfl rfl rfl rfl rfl rfl rfl hpc1 (by simp[Fr.push,h.stack])
 ·exact push ⟨3,x.a⟩ (by simp[xao,o]) (by simp[xay,o,xao])
 ·exact push xaU (by simp[xao,o]) (by simp[xay,o,xao])
 ·exact push ⟨1,0⟩ (by simp[xao,o]) (by simp[xay,o,xao])
 ·exact push ⟨2,0⟩ (by simp[xao,o]) (by simp[xay,o,xao])
 ·have hne:lf.stack≠[]:=by intro e;rw[e] at hneed;simp[xaS,o] at hneed
  have e2:xay T0 (T0+1) (T0+1+A) first behind x=x:=by simp[xay,o]
  rw[xhq o] at PL;rw[e2,xhq o,xhq o]
  exact⟨rfl,rfl,fun _=>h.to (PL rfl) rfl rfl rfl rfl rfl rfl rfl rfl rfl rfl rfl hpc1 (by simp only[Fr.pop,h.stack];exact xes _ _ hne)⟩
 ·have hne:lf.stack≠[]:=by intro e;rw[e] at hneed;simp[xaS,o] at hneed
  have e2:xay T0 (T0+1) (T0+1+A) first behind x=x:=by simp[xay,o]
  rw[xhr o] at PL;rw[e2,xhr o,xhr o]
  exact⟨rfl,rfl,fun _=>h.to (PL rfl) rfl rfl rfl rfl rfl rfl rfl rfl rfl rfl rfl hpc1 (by simp only[Fr.push,Fr.top,h.stack,xgg _ _ hne,List.append_assoc])⟩
 ·have hne:lf.stack≠[]:=by intro e;rw[e] at hneed;simp[xaS,o] at hneed
  obtain⟨a0,a1⟩:=hx.temp (Or.inr o);obtain⟨k,hk⟩:∃ k:Nat,x.a=(k:Int):=⟨x.a.toNat,by omega⟩
  have e2:xay T0 (T0+1) (T0+1+A) first behind x=ins 11 ((T0:Int)+1+A+x.a) 0 0:=by simp[xay,o]
  have e4:((T0:Int)+1+A+x.a)=((T0+1+A+k:Nat):Int):=by omega
  rw[xgo o] at PL;rw[e2,xgo o,xgo (by rfl)]
  refine⟨rfl,rfl,fun _=>?_⟩
  have htop:Fr.top { ff with pc:=ff.pc+1 }=Fr.top { lf with pc:=lf.pc+1 }:=by simp only[Fr.top,h.stack,xgg _ _ hne]
  have hlt:T0+1+A+k<ff.temps.length:=xae (h.ttemps k _ (List.getElem?_eq_getElem (by omega)))
  refine⟨h.fast,h.code,h.cls,h.meth,h.self,h.args,?_,?_,PL rfl,h.lcode,h.alen,hpc1,?_,?_,?_,?_⟩
  ·simp only[xbE];exact h.len
  ·simp only[ins,e4,xbS,htop];rw[xo0 (by omega)];exact h.take
  ·simp only[Fr.pop,h.stack];exact xes _ _ hne
  ·simp only[ins,e4,xbS];rw[List.getElem?_set_ne (by omega)];exact h.tself
  ·intro i v hv;have:=xae hv;simp only[ins,e4,xbS];rw[List.getElem?_set_ne (by have:i<lf.args.length:=this;omega)]
   exact h.targs i v hv
  ·intro i v hv;simp only[hk,xbS] at hv;simp only[ins,e4,xbS,htop]
   by_cases hi:i=k
   ·subst hi;rw[List.getElem?_set_self (by omega)] at hv
    rw[List.getElem?_set_self hlt]
    exact hv
   ·rw[List.getElem?_set_ne (by omega)] at hv
    rw[List.getElem?_set_ne (by omega)]
    exact h.ttemps i v hv
 ·have hne:lf.stack≠[]:=by intro e;rw[e] at hneed;simp[xaS,o] at hneed
  have e2:xay T0 (T0+1) (T0+1+A) first behind x=ins 20 T0 x.a 0:=by simp[xay,o]
  rw[xjb o] at PL;rw[e2,xjb o,xgn (by simp)]
  have e3:xbQ E d m { ff with pc:=ff.pc+1 } (ins 20 (T0:Int) x.a 0)=({ m with heap:=xaX m.heap lf.self x.a (xaQ lf.stack 0) },Fr.pop { ff with pc:=ff.pc+1 },0):=by simp[xbQ,h.fast,hself,Fr.top,h.stack,xgg _ _ hne]
  rw[e3]
  exact⟨rfl,rfl,fun _=>h.to (PL rfl) rfl rfl rfl rfl rfl rfl rfl rfl rfl rfl rfl hpc1 (by simp only[Fr.pop,h.stack];exact xes _ _ hne)⟩
 ·have e2:xay T0 (T0+1) (T0+1+A) first behind x=ins 15 ((first:Int)+x.a) 0 0:=by simp[xay,o]
  rw[xeg o] at PL;rw[e2,xeg o,xeg (by rfl)]
  exact xiI h ht (by rfl) (by rfl) (by rfl) (by rfl) (by rfl) (by rfl) (by rfl) (by rfl) (by rfl) (by rfl) (by rfl) (by simp[h.stack]) PL
 ·have hne:lf.stack≠[]:=by intro e;rw[e] at hneed;simp[xaS,o] at hneed
  have e2:xay T0 (T0+1) (T0+1+A) first behind x=ins 16 ((first:Int)+x.a) 0 0:=by simp[xay,o]
  rw[xe6 o] at PL;rw[e2,xe6 o,xe6 (by rfl)]
  have htop:Fr.top { ff with pc:=ff.pc+1 }=Fr.top { lf with pc:=lf.pc+1 }:=by simp only[Fr.top,h.stack,xgg _ _ hne]
  unfold xbz at PL ⊢;rw[htop]
  by_cases k2:(Fr.top { lf with pc:=lf.pc+1 }).k=2
  ·rw[if_pos k2] at PL;rw[if_pos k2,if_pos k2]
   exact⟨rfl,rfl,fun _=>h.to (PL rfl) rfl rfl rfl rfl rfl rfl rfl rfl rfl rfl rfl hpc1 (by simp only[Fr.pop,h.stack];exact xes _ _ hne)⟩
  ·rw[if_neg k2] at PL;rw[if_neg k2,if_neg k2]
   by_cases k1:(Fr.top { lf with pc:=lf.pc+1 }).k=1
   ·rw[if_pos k1] at PL;rw[if_pos k1,if_pos k1]
    exact xiI h ht (by rfl) (by rfl) (by rfl) (by rfl) (by rfl) (by rfl) (by rfl) (by rfl) (by rfl) (by rfl) (by rfl) (by simp only[Fr.pop,h.stack];exact xes _ _ hne) PL
   ·rw[if_neg k1,if_neg k1]
    exact⟨rfl,rfl,fun h=>by simp at h⟩
end
structure LfQ (FC:List QI)(T0:Nat)(behind:Int)(base:List QV)(f0:Fr)(v:QV)(ff:Fr):Prop where
 fast:ff.fast=true
 code:ff.code=FC
 cls:ff.cls=f0.cls
 meth:ff.meth=f0.meth
 self:ff.self=f0.self
 args:ff.args=f0.args
 len:ff.temps.length=f0.temps.length
 take:ff.temps.take T0=f0.temps.take T0
 pc:ff.pc=behind
 stack:ff.stack=base++[v]
section
variable {σ:Type} {ent ent':Ent σ} {E E':Env σ} {d d':Nat}
theorem xkJ (ht:xbt ent)(ht':xbt ent')(he':xia ent'){LC FC:List QI}{T0 A first:Nat}{base:List QV}{f0:Fr}(hleaf:∀ x∈LC,x.op≠13/\x.op≠14)(hcode:∀ (j:Nat) x,LC[j]?=some x->FC[first+j]?=some (xay T0 (T0+1) (T0+1+A) first ((first:Int)+LC.length) x)) :
  ∀ (N:Nat) (m:Mc σ) (ff lf:Fr),LfP LC FC T0 A first base f0 ff lf->TOk m->muE m ff<=N->
   ((goE ent' E' d' m lf).2.2≠0/\goE ent E d m ff=((goE ent' E' d' m lf).1,xaU,(goE ent' E' d' m lf).2.2))\/
   ((goE ent' E' d' m lf).2.2=0/\TOk (goE ent' E' d' m lf).1/\∃ ff',LfQ FC T0 ((first:Int)+LC.length) base f0 (goE ent' E' d' m lf).2.1 ff'/\goE ent E d m ff=goE ent E d (goE ent' E' d' m lf).1 ff'/\muE (goE ent' E' d' m lf).1 ff'<muE m ff):=by
  intro N;induction N using Nat.strongRecOn;rename_i N iH;intro m ff lf h hT hN
  obtain⟨j,x,hx⟩:=h.pl.nx;have hxj:LC[j]?=some x:=by rw[← h.lcode];exact hx.here
  have hjl:=xae hxj;have hfl:xbO lf=some x:=by unfold xbO;rw[hx.pc,if_neg (by omega)];simpa using hx.here
  have hpc:ff.pc=((first+j:Nat):Int):=by rw[h.pc,hx.pc];omega
  have hff:xbO ff=some (xay T0 (T0+1) (T0+1+A) first ((first:Int)+LC.length) x):=by
   unfold xbO;rw[hpc,if_neg (by omega),h.code,Int.toNat_natCast]
   exact hcode j x hxj
  obtain⟨n13,n14⟩:=hleaf x (List.mem_of_getElem? hxj);have hk:=hx.kind
  by_cases h17:x.op=17
  ·right
   have e1:goE ent' E' d' m lf=(m,lf.top,0):=xjq hfl h17;rw[e1];have e2:xay T0 (T0+1) (T0+1+A) first ((first:Int)+LC.length) x=ins 15 ((first:Int)+LC.length) 0 0:=by simp[xay,h17]
   rw[e2] at hff
   have e3:xaj ent E d m { ff with pc:=ff.pc+1 } ff.pc (ins 15 ((first:Int)+LC.length) 0 0)=(m,{ ff with pc:=(first:Int)+LC.length },0):=by
    rw[xeg (by rfl)]
    rcases xbL m { ff with pc:=ff.pc+1 } ff.pc ((first:Int)+LC.length) hT with ⟨k,-⟩ | ⟨k,-⟩ | ⟨-,k⟩
    ·omega
    ·omega
    ·exact k
   obtain⟨g1,g2,g3⟩:=xhB ht (E:=E) (d:=d) hT.1 hff (by simp) (by rw[e3])
   rw[e3] at g1 g2;refine⟨rfl,hT,{ ff with pc:=(first:Int)+LC.length },⟨h.fast,h.code,h.cls,h.meth,h.self,h.args,h.len,h.take,rfl,?_⟩,g1,g2⟩
   have hl1:=hx.back h17
   obtain⟨v,hv⟩:∃ v,lf.stack=[v]:=by
    match hs:lf.stack,hl1 with
    | [v],_=>exact⟨v,rfl⟩
   show ff.stack=base++[xaQ lf.stack 0]
   rw[h.stack,hv]
   simp[xaQ,xaM]
  ·have y17:(xay T0 (T0+1) (T0+1+A) first ((first:Int)+LC.length) x).op≠17:=by
    unfold xay
    split
    ·simp
    ·split
     ·simp
     ·split
      ·rename_i hh;simp;omega
      ·split
       ·simp
       ·split
        ·simp
        ·split
         ·rename_i hh;simp;omega
         ·exact h17
   obtain⟨b1,b2,b3⟩:=xmj (ent:=ent) (ent':=ent') (E:=E) (E':=E') (d:=d) (d':=d') h hT hx h17 n13 n14 ((first:Int)+LC.length)
   by_cases hz:(xaj ent' E' d' m { lf with pc:=lf.pc+1 } lf.pc x).2.2=0
   ·obtain⟨g1,g2,g3⟩:=xhB ht (E:=E) (d:=d) hT.1 hff y17 (by rw[b2];exact hz)
    obtain⟨l1,l2,l3⟩:=xhB ht' (E:=E') (d:=d') hT.1 hfl h17 hz;have hT':=xfK (E:=E') (d:=d') (f:={ lf with pc:=lf.pc+1 }) (at':=lf.pc) (x:=x) he' hT hz
    have hP:=b3 hz;rw[b1] at g1 g2;rw[g1,l1];have ih:=iH (N-1) (by omega) _ _ _ hP hT' (by omega)
    rcases ih with ih | ⟨i1,i2,ff',i3,i4,i5⟩
    ·exact Or.inl ih
    ·exact Or.inr ⟨i1,i2,ff',i3,i4,by omega⟩
   ·left
    rw[xfQ hff y17 (by rw[b2];exact hz),xfQ hfl h17 hz,b1,b2]
    exact⟨hz,rfl⟩
end
structure Nx (f f':Fr):Prop where
 fast:f'.fast=f.fast
 code:f'.code=f.code
 cls:f'.cls=f.cls
 meth:f'.meth=f.meth
 self:f'.self=f.self
 args:f'.args=f.args
 len:f'.temps.length=f.temps.length
theorem Nx.refl (f:Fr):Nx f f:=⟨rfl,rfl,rfl,rfl,rfl,rfl,rfl⟩
theorem Nx.trans {a b c:Fr}(h:Nx a b)(k:Nx b c):Nx a c:=⟨k.fast.trans h.fast,k.code.trans h.code,k.cls.trans h.cls,k.meth.trans h.meth,k.self.trans h.self,k.args.trans h.args,k.len.trans h.len⟩
section
variable {σ:Type}
def Goes (ent:Ent σ)(E:Env σ)(d:Nat)(m:Mc σ)(f f':Fr):Prop:=goE ent E d m f=goE ent E d m f'/\muE m f'<=muE m f
theorem Goes.refl (ent:Ent σ)(E:Env σ)(d:Nat)(m:Mc σ)(f:Fr):Goes ent E d m f f:=⟨rfl,qzC _⟩
theorem Goes.trans {ent:Ent σ}{E:Env σ}{d:Nat}{m:Mc σ}{a b c:Fr}(h:Goes ent E d m a b)(k:Goes ent E d m b c):Goes ent E d m a c:=⟨h.1.trans k.1,qzD k.2 h.2⟩
variable {ent:Ent σ} {E:Env σ} {d:Nat} {m:Mc σ}
theorem xeX {f:Fr}{p:Nat}{x:QI}(hp:f.pc=(p:Int))(hx:f.code[p]?=some x):xbO f=some x:=by
 unfold xbO;rw[hp,if_neg (by omega),Int.toNat_natCast];exact hx
theorem xgx (ht:xbt ent)(h0:0<=m.tz){f f':Fr}{p:Nat}{x:QI}(hp:f.pc=(p:Int))(hx:f.code[p]?=some x)(h17:x.op≠17)(hs:xaj ent E d m { f with pc:=f.pc+1 } f.pc x=(m,f',0)):Goes ent E d m f f':=by
 obtain⟨g1,g2,-⟩:=xhB ht (E:=E) (d:=d) h0 (xeX hp hx) h17 (by rw[hs])
 rw[hs] at g1 g2
 exact⟨g1,Nat.le_of_lt g2⟩
theorem xgF (l:List QV)(v:QV):xaQ (l++[v]) 0=v:=by
 rw[xgg _ _ (by simp)];simp[xaQ,xaM]
theorem xhS (ht:xbt ent)(h0:0<=m.tz){f:Fr}{p n:Nat}{base:List QV}{v:QV}{a:Int}(hp:f.pc=(p:Int))(hx:f.code[p]?=some (ins 11 a 0 0))(ha:a=(n:Int))(hs:f.stack=base++[v])(hn:n<f.temps.length):∃ f',Nx f f'/\f'.pc=((p+1:Nat):Int)/\f'.stack=base/\f'.temps[n]?=some v/\(∀ i,i≠n->f'.temps[i]?=f.temps[i]?)/\Goes ent E d m f f':=by
 subst ha;refine⟨{ f with pc:=f.pc+1,stack:=base,temps:=f.temps.set n v },⟨rfl,rfl,rfl,rfl,rfl,rfl,by simp⟩,by simp only[hp];omega,rfl,by simp[hn],fun i hi=>by simp only;rw[List.getElem?_set_ne (by omega)],?_⟩
 refine xgx ht h0 hp hx (by simp) ?_
 rw[xgo (by rfl)]
 simp only[Fr.pop,Fr.top,hs,xgF,xbS,List.dropLast_concat]
theorem xno (ht:xbt ent)(h0:0<=m.tz)(T1:Nat):∀ (n:Nat) (f:Fr) (p:Nat) (base as':List QV),f.pc=(p:Int)->(∀ (j:Nat) y,(xdd (T1:Int) n)[j]?=some y->f.code[p+j]?=some y)->f.stack=base++as'->as'.length=n->T1+n<=f.temps.length->
  ∃ f',Nx f f'/\f'.pc=((p+n:Nat):Int)/\f'.stack=base/\(∀ (i:Nat) v,as'[i]?=some v->f'.temps[T1+i]?=some v)/\(∀ i,i<T1\/T1+n<=i->f'.temps[i]?=f.temps[i]?)/\Goes ent E d m f f'
 | 0,f,p,base,as',hp,hc,hs,hl,hn=>by
  obtain rfl:=List.eq_nil_of_length_eq_zero hl
  exact⟨f,.refl f,hp,by simpa using hs,fun i v hv=>by simp at hv,fun i _=>rfl,.refl _ _ _ _ _⟩
 | n+1,f,p,base,as',hp,hc,hs,hl,hn=>by
  obtain⟨bs,v,rfl⟩:∃ bs v,as'=bs++[v]:=⟨as'.dropLast,as'.getLast (by intro e;subst e;simp at hl),(List.dropLast_concat_getLast _).symm⟩
  have hbl:bs.length=n:=by simpa using hl
  obtain⟨f1,n1,n2,n3,n4,n5,n6⟩:=xhS (E:=E) (d:=d) ht h0 (n:=T1+n) (base:=base++bs) (v:=v) (a:=(T1:Int)+n) hp (by simpa using hc 0 (ins 11 ((T1:Int)+n) 0 0) rfl) (by omega) (by rw[hs,List.append_assoc]) (by omega)
  obtain⟨f2,k1,k2,k3,k4,k5,k6⟩:=xno ht h0 T1 n f1 (p+1) base bs n2 (fun j y hy=>by rw[n1.code,show p+1+j=p+(j+1) by omega];exact hc (j+1) y hy) n3 hbl (by rw[n1.len];omega)
  refine⟨f2,n1.trans k1,by rw[k2];omega,k3,fun i w hw=>?_,fun i hi=>?_,n6.trans k6⟩
  ·by_cases hi:i<n
   ·rw[List.getElem?_append_left (by omega)] at hw
    exact k4 i w hw
   ·rw[List.getElem?_append_right (by omega)] at hw
    have:i=n:=by
     have:=xae hw
     simp at this;omega
    subst this;rw[k5 _ (Or.inr (qzC _)),n4]
    simpa [hbl] using hw
  ·rw[k5 i (by omega),n5 i (by omega)]
theorem xkt (tm:Int):∀ (n i:Nat),i<n->(xco tm n)[2*i]?=some (ins 6 0 0 0)/\(xco tm n)[2*i+1]?=some (ins 11 (tm+(i:Nat)) 0 0)
 | 0,i,h=>by omega
 | n+1,i,h=>by
  rw[xdV];have hl:=xdP tm n
  by_cases hi:i<n
  ·obtain⟨a,b⟩:=xkt tm n i hi;rw[List.getElem?_append_left (by omega),List.getElem?_append_left (by omega)]
   exact⟨a,b⟩
  ·have:i=n:=by omega
   subst this;rw[List.getElem?_append_right (by omega),List.getElem?_append_right (by omega),hl]
   simp
theorem xmY (ht:xbt ent)(h0:0<=m.tz)(tm n p:Nat):∀ (r i:Nat) (f:Fr),i+r=n->f.pc=((p+2*i:Nat):Int)->(∀ (j:Nat) y,(xco (tm:Int) n)[j]?=some y->f.code[p+j]?=some y)->tm+n<=f.temps.length->(∀ q,q<i->f.temps[tm+q]?=some xaU)->
  ∃ f',Nx f f'/\f'.pc=((p+2*n:Nat):Int)/\f'.stack=f.stack/\(∀ q,q<n->f'.temps[tm+q]?=some xaU)/\(∀ q,q<tm\/tm+n<=q->f'.temps[q]?=f.temps[q]?)/\Goes ent E d m f f'
 | 0,i,f,hr,hp,hc,hn,hd=>by
  obtain rfl:i=n:=by omega
  exact⟨f,.refl f,hp,rfl,hd,fun _ _=>rfl,.refl _ _ _ _ _⟩
 | r+1,i,f,hr,hp,hc,hn,hd=>by
  obtain⟨c6,c11⟩:=xkt (tm:Int) n i (by omega)
  have g1:Goes ent E d m f (Fr.push { f with pc:=f.pc+1 } xaU):=xgx ht h0 hp (hc _ _ c6) (by simp) (xdo (by simp[xao]))
  obtain⟨f1,n1,n2,n3,n4,n5,n6⟩:=xhS (E:=E) (d:=d) (f:=Fr.push { f with pc:=f.pc+1 } xaU) ht h0 (p:=p+2*i+1) (n:=tm+i) (base:=f.stack) (v:=xaU) (a:=(tm:Int)+(i:Nat)) (by simp only[Fr.push,hp];omega) (by have:=hc _ _ c11;simpa [Fr.push,Nat.add_assoc] using this) (by omega) rfl (by simp only[Fr.push];omega)
  obtain⟨f2,k1,k2,k3,k4,k5,k6⟩:=xmY ht h0 tm n p r (i+1) f1 (by omega) (by rw[n2];omega) (fun j y hy=>by rw[n1.code];exact hc j y hy) (by rw[n1.len];exact hn) (fun q hq=>by
   by_cases hqi:q=i
   ·subst hqi;exact n4
   ·rw[n5 _ (by omega)];exact hd q (by omega))
  have nx:Nx f (Fr.push { f with pc:=f.pc+1 } xaU):=⟨rfl,rfl,rfl,rfl,rfl,rfl,rfl⟩
  refine⟨f2,nx.trans (n1.trans k1),k2,k3.trans n3,k4,fun q hq=>?_,g1.trans (n6.trans k6)⟩
  rw[k5 q hq,n5 q (by omega)]
  rfl
end
section
variable {xs:List QC} {sites:List Int} {m:QM}
def bgn (xs:List QC)(sites:List Int)(m:QM)(k:Nat):Nat:=(xah xs sites m k).code.length
theorem xkR (B:List Int):∀ {k:Nat},k<=m.code.length->(xgk xs sites m B k).length=bgn xs sites m k
 | 0,_=>rfl
 | k+1,h=>by
  rw[xhK (by omega),List.length_append,List.length_map,xkR B (k:=k) (by omega)]
  exact (xpq (by omega)).symm
theorem xqz {k:Nat}(hk:k<m.code.length):0<(pcK xs sites m k).length:=by
 have hx:m.code[k]?=some m.code[k]:=List.getElem?_eq_getElem hk
 cases h:xdZ xs sites m.code.length (xah xs sites m k).code.length (xah xs sites m k).temps k m.code[k] with
 | none=>obtain⟨-,e1,-⟩:=xfD hx h;rw[e1];simp
 | some leaf=>obtain⟨-,e1,-⟩:=xhJ hx h;rw[e1,xbB];omega
theorem xhP {k:Nat}(hk:k<m.code.length):bgn xs sites m (k+1)=bgn xs sites m k+(pcK xs sites m k).length:=xpq hk
theorem xmE:∀ {j i:Nat},i<j->j<=m.code.length->bgn xs sites m i<bgn xs sites m j
 | 0,i,h,_=>by omega
 | j+1,i,h,hj=>by
  have h1:=xhP (xs:=xs) (sites:=sites) (m:=m) (k:=j) (by omega)
  have h2:=xqz (xs:=xs) (sites:=sites) (m:=m) (k:=j) (by omega)
  by_cases hij:i=j
  ·subst hij;omega
  ·have:=xmE (j:=j) (i:=i) (by omega) (by omega)
   omega
theorem xrg {i j:Nat}(hi:i<m.code.length)(hj:j<m.code.length):(bgn xs sites m i:Int)<=bgn xs sites m j ↔ (i:Int)<=j:=by
 constructor
 ·intro h
  rcases Nat.lt_or_ge j i with h' | h'
  ·have:=xmE (xs:=xs) (sites:=sites) (m:=m) h' (by omega);omega
  ·omega
 ·intro h
  rcases Nat.lt_or_ge i j with h' | h'
  ·have:=xmE (xs:=xs) (sites:=sites) (m:=m) h' (by omega);omega
  ·have:i=j:=by omega
   subst this;omega
theorem xky (B:List Int):∀ {n k:Nat},k<=n->n<=m.code.length->∃ rest,xgk xs sites m B n=xgk xs sites m B k++rest
 | 0,k,h,_=>⟨[],by obtain rfl:k=0:=(by omega);simp⟩
 | n+1,k,h,hn=>by
  by_cases hk:k=n+1
  ·subst hk;exact⟨[],by simp⟩
  ·obtain⟨rest,e⟩:=xky B (n:=n) (k:=k) (by omega) (by omega)
   exact⟨rest++(pcK xs sites m n).map (xqw xs sites m B n),by rw[xhK (by omega),e,List.append_assoc]⟩
theorem xng (B:List Int){k j:Nat}{y:QI}(hk:k<m.code.length)(hy:(pcK xs sites m k)[j]?=some y):(xgk xs sites m B m.code.length)[bgn xs sites m k+j]?=some (xqw xs sites m B k y):=by
 obtain⟨rest,e⟩:=xky (xs:=xs) (sites:=sites) (m:=m) B (n:=m.code.length) (k:=k+1) (by omega) (qzC _)
 have hl:=xkR (xs:=xs) (sites:=sites) (m:=m) B (k:=k) (by omega)
 have hj:=xae hy;rw[e,xhK hk,List.append_assoc,List.getElem?_append_right (by omega),hl,Nat.add_sub_cancel_left,List.getElem?_append_left (by simpa using hj),List.getElem?_map,hy]
 rfl
theorem xoa (B:List Int){k:Nat}{x:QI}(hx:m.code[k]?=some x)(hw:xcZ xs sites m k=none):(xgk xs sites m B m.code.length)[bgn xs sites m k]?=some (xcE B (xbh x k))/\bgn xs sites m (k+1)=bgn xs sites m k+1:=by
 have hk:=xae hx;have hw':xdZ xs sites m.code.length (xah xs sites m k).code.length (xah xs sites m k).temps k x=none:=by unfold xcZ at hw;rw[hx] at hw;exact hw
 obtain⟨-,e1,-⟩:=xfD hx hw';have h1:=xng (xs:=xs) (sites:=sites) (m:=m) B (k:=k) (j:=0) (y:=xbh x k) hk (by rw[e1];rfl)
 refine⟨?_,by rw[xhP hk,e1];rfl⟩
 have e2:xqw xs sites m B k (xbh x k)=xcE B (xbh x k):=by unfold xqw;rw[hw];simp
 rw[← e2]
 exact h1
theorem xiK (B:List Int){k:Nat}{x:QI}{leaf:QM}(hx:m.code[k]?=some x)(hw:xcZ xs sites m k=some leaf):(∀ (j:Nat) y,(xbu leaf (ins 18 (sites.getD k (-1)) leaf.args k) (xah xs sites m k).temps (bgn xs sites m k))[j]?=some y->(xgk xs sites m B m.code.length)[bgn xs sites m k+j]?=some y)/\bgn xs sites m (k+1)=bgn xs sites m k+(xbu leaf (ins 18 (sites.getD k (-1)) leaf.args k) (xah xs sites m k).temps (bgn xs sites m k)).length/\(xah xs sites m (k+1)).temps=(xah xs sites m k).temps+1+leaf.args+leaf.temps:=by
 have hk:=xae hx;have hw':xdZ xs sites m.code.length (xah xs sites m k).code.length (xah xs sites m k).temps k x=some leaf:=by unfold xcZ at hw;rw[hx] at hw;exact hw
 obtain⟨-,e1,e2,-⟩:=xhJ hx hw';refine⟨fun j y hy=>?_,?_,e2⟩
 ·rw[← xgH leaf _ rfl,List.getElem?_map] at hy;obtain⟨z,hz,rfl⟩:=Option.map_eq_some_iff.1 hy;have h1:=xng (xs:=xs) (sites:=sites) (m:=m) B (k:=k) (j:=j) (y:=z) hk (by rw[e1];exact hz)
  rw[h1];unfold xqw;rw[hw]
  rfl
 ·rw[xhP hk,e1,xbB,xbB]
theorem xdX (h:∀ (k:Nat) leaf,xcZ xs sites m k=some leaf->0<=leaf.args/\0<=leaf.temps):∀ {n k:Nat},k<=n->n<=m.code.length->(xah xs sites m k).temps<=(xah xs sites m n).temps
 | 0,k,hk,_=>by obtain rfl:k=0:=(by omega);exact Int.le_refl _
 | n+1,k,hk,hn=>by
  by_cases e:k=n+1
  ·subst e;exact Int.le_refl _
  ·have ih:=xdX h (n:=n) (k:=k) (by omega) (by omega)
   have hx:m.code[n]?=some m.code[n]:=List.getElem?_eq_getElem (by omega)
   cases hw:xcZ xs sites m n with
   | none=>
    have hw':xdZ xs sites m.code.length (xah xs sites m n).code.length (xah xs sites m n).temps n m.code[n]=none:=by unfold xcZ at hw;rw[hx] at hw;exact hw
    obtain⟨-,-,e2,-⟩:=xfD hx hw';rw[e2];exact ih
   | some leaf=>
    obtain⟨-,-,e2⟩:=xiK (xs:=xs) (sites:=sites) [] hx hw;have:=h n leaf hw;rw[e2];omega
end
theorem xeV {α:Type}{a b:List α}{j:Nat}{y:α}(h:a[j]?=some y):(a++b)[j]?=some y:=by rw[List.getElem?_append_left (xae h)];exact h
theorem xoy {α:Type}{a b:List α}{n j:Nat}{y:α}(hn:a.length=n)(h:b[j]?=some y):(a++b)[n+j]?=some y:=by subst hn;rw[List.getElem?_append_right (by omega)];simpa using h
structure PcAt (FC:List QI)(leaf:QM)(g:QI)(T0 A T p:Nat):Prop where
 guard:FC[p]?=some g
 count:FC[p+1]?=some (ins 21 0 0 0)
 sets:∀ (j:Nat) y,(xdd ((T0+1:Nat):Int) A)[j]?=some y->FC[p+2+j]?=some y
 set:FC[p+2+A]?=some (ins 11 (T0:Int) 0 0)
 nils:∀ (j:Nat) y,(xco ((T0+1+A:Nat):Int) T)[j]?=some y->FC[p+3+A+j]?=some y
 code:∀ (j:Nat) x,leaf.code[j]?=some x->FC[p+3+A+2*T+j]?=some (xay T0 (T0+1) (T0+1+A) ((p+3+A+2*T:Nat):Int) (((p+3+A+2*T:Nat):Int)+leaf.code.length) x)
theorem xoe {FC:List QI}{leaf:QM}{g:QI}{T0 A T p:Nat}(hA:leaf.args=(A:Int))(hT:leaf.temps=(T:Int))(h:∀ (j:Nat) y,(xbu leaf g (T0:Int) (p:Int))[j]?=some y->FC[p+j]?=some y):PcAt FC leaf g T0 A T p:=by
 have hS:=xfV ((T0:Int)+1) A;have hN:=xdP ((T0:Int)+1+A) T;have hf:xbw leaf (p:Int)=((p+3+A+2*T:Nat):Int):=by unfold xbw;rw[hA,hT];omega
 have hpe:xbu leaf g (T0:Int) (p:Int)=[g,ins 21 0 0 0]++xdd ((T0:Int)+1) A++[ins 11 (T0:Int) 0 0]++xco ((T0:Int)+1+A) T++leaf.code.map (xay T0 (T0+1) (T0+1+A) ((p+3+A+2*T:Nat):Int) (((p+3+A+2*T:Nat):Int)+leaf.code.length)):=by
  unfold xbu xfy;rw[hf,hA,hT];simp only[Int.toNat_natCast]
 rw[hpe] at h;refine⟨?_,?_,?_,?_,?_,?_⟩
 ·simpa using h 0 g (xeV (xeV (xeV (xeV rfl))))
 ·exact h 1 _ (xeV (xeV (xeV (xeV rfl))))
 ·intro j y hy;rw[show p+2+j=p+(2+j) by omega]
  exact h (2+j) y (xeV (xeV (xeV (xoy rfl (by simpa using hy)))))
 ·rw[show p+2+A=p+(2+A+0) by omega]
  exact h _ _ (xeV (xeV (xoy (by simp[hS];omega) rfl)))
 ·intro j y hy;rw[show p+3+A+j=p+(3+A+j) by omega]
  exact h _ y (xeV (xoy (by simp[hS];omega) (by have:=hy;simpa using this)))
 ·intro j x hx;rw[show p+3+A+2*T+j=p+(3+A+2*T+j) by omega]
  exact h _ _ (xoy (by simp[hS,hN];omega) (by rw[List.getElem?_map,hx];rfl))
section
variable {σ:Type} {ent ent':Ent σ} {E E':Env σ} {d d':Nat} {m:Mc σ}
theorem xdQ {T:Nat}(h:T<=40):xaG (T:Int)=List.replicate T xaU:=by unfold xaG;congr 1;omega
theorem xnT (ht:xbt ent)(ht':xbt ent')(he':xia ent'){FC:List QI}{leaf:QM}{T0 A T p:Nat}{ks kc:Int}(hP:PcAt FC leaf (ins 18 ks (A:Int) kc) T0 A T p)(hT6:T<=40)(hleaf:∀ x∈leaf.code,x.op≠13/\x.op≠14){base as':List QV}{recv:QV}{ff:Fr}(hfast:ff.fast=true)(hcode:ff.code=FC)(hpc:ff.pc=(p:Int))(hst:ff.stack=base++[recv]++as')(hal:as'.length=A)(hlen:T0+1+A+T<=ff.temps.length){q:Int}(hpl:PlOk ⟨q,leaf,recv,as',xaG (T:Int),[],leaf.code,0,false⟩)(hk:xas m.heap recv=ks)(hTk:TOk m) :
  ((xau E d m).2≠0/\goE ent E d m ff=((xau E d m).1,xaU,(xau E d m).2))\/
  ((xau E d m).2=0/\(((goE ent' E' d' (xau E d m).1 ⟨q,leaf,recv,as',xaG (T:Int),[],leaf.code,0,false⟩).2.2≠0/\goE ent E d m ff=((goE ent' E' d' (xau E d m).1 ⟨q,leaf,recv,as',xaG (T:Int),[],leaf.code,0,false⟩).1,xaU,(goE ent' E' d' (xau E d m).1 ⟨q,leaf,recv,as',xaG (T:Int),[],leaf.code,0,false⟩).2.2))\/
   ((goE ent' E' d' (xau E d m).1 ⟨q,leaf,recv,as',xaG (T:Int),[],leaf.code,0,false⟩).2.2=0/\TOk (goE ent' E' d' (xau E d m).1 ⟨q,leaf,recv,as',xaG (T:Int),[],leaf.code,0,false⟩).1/\∃ ff',LfQ FC T0 (((p+3+A+2*T:Nat):Int)+leaf.code.length) base ff (goE ent' E' d' (xau E d m).1 ⟨q,leaf,recv,as',xaG (T:Int),[],leaf.code,0,false⟩).2.1 ff'/\goE ent E d m ff=goE ent E d (goE ent' E' d' (xau E d m).1 ⟨q,leaf,recv,as',xaG (T:Int),[],leaf.code,0,false⟩).1 ff'/\muE (goE ent' E' d' (xau E d m).1 ⟨q,leaf,recv,as',xaG (T:Int),[],leaf.code,0,false⟩).1 ff'<muE m ff))):=by
 have hbelow:xaQ ff.stack (A:Int)=recv:=by
  unfold xaQ;rw[show ((ff.stack.length:Int)-1-A)=((base.length:Nat):Int) by rw[hst];simp;omega,xb9,hst,List.append_assoc]
  rw[List.getElem?_append_right (qzC _)]
  simp
 have g1:Goes ent E d m ff { ff with pc:=ff.pc+1 }:=by
  refine xgx ht hTk.1 hpc (by rw[hcode];exact hP.guard) (by simp) ?_
  rw[xgn (by simp)]
  have hb':xaQ { ff with pc:=ff.pc+1 }.stack (A:Int)=recv:=hbelow
  simp only[xbQ,hfast,ins,hb',hk]
  simp
 have hc1:xbO { ff with pc:=ff.pc+1 }=some (ins 21 0 0 0):=xeX (p:=p+1) (by simp only[hpc];omega) (by simp only[hcode];exact hP.count)
 have hs1:xaj ent E d m { ff with pc:=ff.pc+1+1 } (ff.pc+1) (ins 21 0 0 0)=((xau E d m).1,{ ff with pc:=ff.pc+1+1 },(xau E d m).2):=by
  rw[xgn (by simp)]
  simp[xbQ,hfast,ins]
 by_cases hcz:(xau E d m).2=0
 ·right
  refine⟨hcz,?_⟩;have hTk1:TOk (xau E d m).1:=xc6 hTk;obtain⟨c1,c2,c3⟩:=xhB ht (E:=E) (d:=d) hTk.1 hc1 (by simp) (by rw[hs1];exact hcz)
  rw[hs1] at c1 c2;simp only at c1 c2;generalize (xau E d m).1=m1 at *;obtain⟨f1,n1,n2,n3,n4,n5,n6⟩:=xno (ent:=ent) (E:=E) (d:=d) (m:=m1) ht hTk1.1 (T0+1) A { ff with pc:=ff.pc+1+1 } (p+2) (base++[recv]) as' (by simp only[hpc];omega) (fun j y hy=>by simp only[hcode];exact hP.sets j y hy) hst hal (by simp only;omega)
  obtain⟨f2,k1,k2,k3,k4,k5,k6⟩:=xhS (E:=E) (d:=d) (m:=m1) ht hTk1.1 (f:=f1) (p:=p+2+A) (n:=T0) (base:=base) (v:=recv) (a:=(T0:Int)) n2 (by rw[n1.code];simp only[hcode];exact hP.set) rfl n3 (by rw[n1.len];simp only;omega)
  obtain⟨f3,l1,l2,l3,l4,l5,l6⟩:=xmY (ent:=ent) (E:=E) (d:=d) (m:=m1) ht hTk1.1 (T0+1+A) T (p+3+A) T 0 f2 (by omega) (by rw[k2];omega) (fun j y hy=>by rw[k1.code,n1.code];simp only[hcode];exact hP.nils j y hy) (by rw[k1.len,n1.len];simp only;omega) (fun q hq=>by omega)
  have nx:=(n1.trans k1).trans l1
  have hL:LfP leaf.code FC T0 A (p+3+A+2*T) base ff f3 ⟨q,leaf,recv,as',xaG (T:Int),[],leaf.code,0,false⟩:=by
   refine⟨nx.fast.trans hfast,nx.code.trans hcode,nx.cls,nx.meth,nx.self,nx.args,nx.len,?_,hpl,rfl,hal,?_,?_,?_,?_,?_⟩
   ·apply List.ext_getElem?
    intro i;rw[List.getElem?_take,List.getElem?_take]
    split
    ·rw[l5 i (by omega),k5 i (by omega),n5 i (by omega)]
    ·rfl
   ·rw[l2];simp
   ·rw[l3,k3];simp
   ·rw[l5 _ (by omega),k4]
   ·intro i v hv;have:=xae hv;simp only at this hv;rw[show T0+1+i=T0+1+i from rfl,l5 _ (by omega),k5 _ (by omega)]
    exact n4 i v hv
   ·intro i v hv;rw[xdQ hT6] at hv;have hi:=xae hv
    simp at hi
    rw[List.getElem?_replicate,if_pos hi] at hv
    cases hv
    exact l4 i hi
  have hgo:goE ent E d m ff=goE ent E d m1 f3:=by rw[g1.1,c1,n6.1,k6.1,l6.1]
  have hmu:muE m1 f3<muE m ff:=by have:=g1.2;have:=n6.2;have:=k6.2;have:=l6.2;omega
  have hrun:=xkJ (ent:=ent) (ent':=ent') (E:=E) (E':=E') (d:=d) (d':=d') ht ht' he' hleaf hP.code (muE m1 f3) m1 f3 _ hL hTk1 (qzC _)
  rcases hrun with ⟨r1,r2⟩ | ⟨r1,r2,ff',r3,r4,r5⟩
  ·exact Or.inl ⟨r1,by rw[hgo];exact r2⟩
  ·exact Or.inr ⟨r1,r2,ff',r3,by rw[hgo];exact r4,by omega⟩
 ·left
  refine⟨hcz,?_⟩;rw[g1.1,xfQ hc1 (by simp) (by rw[hs1];exact hcz),hs1]
end
section
variable {σ:Type}
structure Like (cs:List QC)(E E':Env σ):Prop where
 fuel:E.fuel=E'.fuel
 cls:E.cz=cs
 cls':E'.cz=cs
 look:∀ st s k nm,E.look st s k nm=(st,xaB cs k nm)
 look':∀ st s k nm,E'.look st s k nm=(st,xaB cs k nm)
def xdR (ent ent':Ent σ):Prop:=∀ m c n s a,TOk m->ent m c n s a=ent' m c n s a
variable {cs:List QC} {E E':Env σ} {ent ent':Ent σ} {d:Nat} {m:Mc σ}
theorem xe8 (h:Like cs E E'):xau E d m=xau E' d m:=by unfold xau;rw[h.fuel]
theorem xiw (h:Like cs E E')(he:xdR ent ent')(hT:TOk m){f f':Fr}{a a':Int}{x x':QI}(hs:f.stack=f'.stack)(hx:x.a=x'.a)(hn:x.name=x'.name):xbD ent E m f a x=((xbD ent' E' m f' a' x').1,(if (xbD ent' E' m f' a' x').2.2≠0 then f else { f with stack:=(xbD ent' E' m f' a' x').2.1.stack }),(xbD ent' E' m f' a' x').2.2):=by
 unfold xbD;simp only[h.look,h.look',hs,hx,hn];have e:=he m (xaB cs (xas m.heap (xaQ (List.take (xbp f'.stack x'.a) f'.stack) 0)) x'.name).1 (xaB cs (xas m.heap (xaQ (List.take (xbp f'.stack x'.a) f'.stack) 0)) x'.name).2 (xaQ (List.take (xbp f'.stack x'.a) f'.stack) 0) (List.drop (xbp f'.stack x'.a) f'.stack) hT;have e':({ heap:=m.heap,sz_:=m.sz_,tz:=m.tz,st:=m.st }:Mc σ)=m:=rfl;rw[e',e];generalize ent' m _ _ _ _=r
 by_cases hz:r.2.2≠0
 ·rw[if_pos hz,if_pos hz];simp[hz]
 ·rw[if_neg hz,if_neg hz];simp
theorem xnj (h:Like cs E E')(he:xdR ent ent')(hT:TOk m)(f:Fr)(a:Int)(x:QI):xaj ent E d m f a x=xaj ent' E' d m f a x:=by
 have hs:xbD ent E m f a x=xbD ent' E' m f a x:=by
  rw[xiw h he hT (f':=f) (a':=a) (x':=x) rfl rfl rfl];unfold xbD;simp only[h.look'];generalize ent' _ _ _ _ _=r
  by_cases hz:r.2.2≠0
  ·simp[hz]
  ·have:r.2.2=0:=by simpa using hz
   simp[this]
 have hm:xbV E m f x.a=xbV E' m f x.a:=by unfold xbV;rw[h.cls,h.cls']
 have hf:xbQ E d m f x=xbQ E' d m f x:=by unfold xbQ;rw[xe8 h]
 unfold xaj;rw[hs,hm,hf]
theorem xhO (h:Like cs E E')(he:xdR ent ent')(he':xia ent'):∀ (g:Nat) (m:Mc σ) (f:Fr),TOk m->xb7 ent E d g m f=xb7 ent' E' d g m f
 | 0,m,f,hT=>rfl
 | g+1,m,f,hT=>by
  cases hf:xbO f with
  | none=>rw[xdp hf,xdp hf]
  | some x=>
   by_cases h17:x.op=17
   ·rw[xdU hf h17,xdU hf h17]
   ·rw[xdg hf h17,xdg hf h17,xnj h he hT];have hs:=xfK (E:=E') (d:=d) (f:={ f with pc:=f.pc+1 }) (at':=f.pc) (x:=x) he' hT
    generalize xaj ent' E' d m { f with pc:=f.pc+1 } f.pc x=r at hs ⊢
    by_cases hz:r.2.2≠0
    ·rw[if_pos hz,if_pos hz]
    ·rw[if_neg hz,if_neg hz]
     exact xhO h he he' g r.1 r.2.1 (hs (by omega))
theorem xpD (h:Like cs E E')(he:xdR ent ent')(he':xia ent')(hT:TOk m)(f:Fr):goE ent E d m f=goE ent' E' d m f:=xhO h he he' _ m f hT
structure FP (FC:List QI)(TT:Nat)(bk:Nat->Nat)(mt:QM)(ff pf:Fr)(k:Nat):Prop where
 pl:PlOk pf
 ppc:pf.pc=(k:Int)
 pmeth:pf.meth=mt
 fast:ff.fast=true
 code:ff.code=FC
 cls:ff.cls=pf.cls
 meth:ff.meth=pf.meth
 self:ff.self=pf.self
 args:ff.args=pf.args
 stack:ff.stack=pf.stack
 pc:ff.pc=(bk k:Int)
 tlen:ff.temps.length=TT
 take:ff.temps.take pf.temps.length=pf.temps
variable {FC:List QI} {TT:Nat} {bk:Nat->Nat} {mt:QM} {ff pf:Fr} {k:Nat}
theorem FP.to (h:FP FC TT bk mt ff pf k){ff' pf':Fr}{k':Nat}(pl:PlOk pf')(c1:pf'.pc=(k':Int))(c2:pf'.meth=pf.meth)(c3:pf'.cls=pf.cls)(c4:pf'.self=pf.self)(c5:pf'.args=pf.args)(c6:pf'.temps=pf.temps)(d1:ff'.fast=ff.fast)(d2:ff'.code=ff.code)(d3:ff'.cls=ff.cls)(d4:ff'.meth=ff.meth)(d5:ff'.self=ff.self)(d6:ff'.args=ff.args)(d7:ff'.temps=ff.temps)(hp:ff'.pc=(bk k':Int))(hs:ff'.stack=pf'.stack):FP FC TT bk mt ff' pf' k':=
 ⟨pl,c1,c2.trans h.pmeth,d1.trans h.fast,d2.trans h.code,by rw[d3,c3];exact h.cls,by rw[d4,c2];exact h.meth,by rw[d5,c4];exact h.self,by rw[d6,c5];exact h.args,hs,hp,by rw[d7];exact h.tlen,by rw[d7,c6];exact h.take⟩
theorem FP.temp (h:FP FC TT bk mt ff pf k){i:Nat}(hi:i<pf.temps.length):ff.temps[i]?=pf.temps[i]?:=by
 have e:(ff.temps.take pf.temps.length)[i]?=pf.temps[i]?:=by rw[h.take]
 rw[List.getElem?_take,if_pos hi] at e
 exact e
def xqR (FC:List QI)(TT:Nat)(bk:Nat->Nat)(mt:QM)(r2 r:Mc σ × Fr × Int):Prop:=r2.1=r.1/\r2.2.2=r.2.2/\(r.2.2=0->∃ k',FP FC TT bk mt r2.2.1 r.2.1 k')
theorem xi8 (h:FP FC TT bk mt ff pf k)(hb:∀ i j,i<mt.code.length->j<mt.code.length->((bk i:Int)<=bk j ↔ (i:Int)<=j))(hkl:k<mt.code.length)(ht:TOk m){ff1 pf1:Fr}{t:Nat}(htl:t<mt.code.length)(c2:pf1.meth=pf.meth)(c3:pf1.cls=pf.cls)(c4:pf1.self=pf.self)(c5:pf1.args=pf.args)(c6:pf1.temps=pf.temps)(d1:ff1.fast=ff.fast)(d2:ff1.code=ff.code)(d3:ff1.cls=ff.cls)(d4:ff1.meth=ff.meth)(d5:ff1.self=ff.self)(d6:ff1.args=ff.args)(d7:ff1.temps=ff.temps)(hs:ff1.stack=pf1.stack)(PL:(xaV m pf1 pf.pc (t:Int)).2.2=0->PlOk (xaV m pf1 pf.pc (t:Int)).2.1) :
  xqR FC TT bk mt (xaV m ff1 ff.pc (bk t:Int)) (xaV m pf1 pf.pc (t:Int)):=by
 have hp:=h.pc;have hpp:=h.ppc;have hbb:=hb t k htl hkl
 rcases xbL m pf1 pf.pc (t:Int) ht with ⟨k1,k2,k3⟩ | ⟨k1,k2,k3⟩ | ⟨k1,k3⟩
 ·rcases xbL m ff1 ff.pc (bk t:Int) ht with ⟨j1,j2,j3⟩ | ⟨j1,j2,j3⟩ | ⟨j1,j3⟩
  ·rw[k3,j3];exact⟨rfl,rfl,fun h=>by simp at h⟩
  ·omega
  ·rw[hp] at j1;rw[hpp] at k1;have:=hbb.2 k1;omega
 ·rcases xbL m ff1 ff.pc (bk t:Int) ht with ⟨j1,j2,j3⟩ | ⟨j1,j2,j3⟩ | ⟨j1,j3⟩
  ·omega
  ·rw[k3] at PL;rw[k3,j3]
   exact⟨rfl,rfl,fun _=>⟨t,h.to (PL rfl) rfl c2 c3 c4 c5 c6 d1 d2 d3 d4 d5 d6 d7 rfl hs⟩⟩
  ·rw[hp] at j1;rw[hpp] at k1;have:=hbb.2 k1;omega
 ·rcases xbL m ff1 ff.pc (bk t:Int) ht with ⟨j1,j2,j3⟩ | ⟨j1,j2,j3⟩ | ⟨j1,j3⟩
  ·rw[hp] at j1;rw[hpp] at k1;have:=hbb.1 j1;omega
  ·rw[hp] at j1;rw[hpp] at k1;have:=hbb.1 j1;omega
  ·rw[k3] at PL;rw[k3,j3]
   exact⟨rfl,rfl,fun _=>⟨t,h.to (PL rfl) rfl c2 c3 c4 c5 c6 d1 d2 d3 d4 d5 d6 d7 rfl hs⟩⟩
end
section
variable {σ:Type} {cs:List QC} {E E':Env σ} {ent ent':Ent σ} {d:Nat} {m:Mc σ} {FC:List QI} {TT:Nat} {bk:Nat->Nat} {mt:QM} {ff pf:Fr} {k:Nat}
theorem xjt {l:List QV}{n i:Nat}(v:QV):(l.set i v).take n=(l.take n).set i v:=by
 apply List.ext_getElem?
 intro j;rw[List.getElem?_take,List.getElem?_set,List.getElem?_set,List.getElem?_take,List.length_take]
 by_cases h1:j<n
 ·by_cases h2:i=j
  ·subst h2
   by_cases h3:i<l.length
   ·simp[h1,h3,Nat.lt_min]
   ·simp[h1,h3,Nat.lt_min]
  ·simp[h1,h2]
 ·by_cases h2:i=j
  ·subst h2
   simp[h1,Nat.lt_min]
  ·simp[h1,h2]
theorem xmo (hl:Like cs E E')(he:xdR ent ent')(h:FP FC TT bk mt ff pf k)(hT:TOk m){x:QI}(hx:NxOk pf k x)(h17:x.op≠17){B:List Int}(hbk:bk (k+1)=bk k+1)(hb:∀ i j,i<mt.code.length->j<mt.code.length->((bk i:Int)<=bk j ↔ (i:Int)<=j))(hkl:k<mt.code.length)(hj:(x.op=15\/x.op=16)->∃ t:Nat,x.a=(t:Int)/\t<mt.code.length/\B.getD x.a.toNat 0=(bk t:Int)) :
  xqR FC TT bk mt (xaj ent E d m { ff with pc:=ff.pc+1 } ff.pc (xcE B (xbh x k))) (xaj ent' E' d m { pf with pc:=pf.pc+1 } pf.pc x):=by
 have hops:x.op=1\/x.op=2\/x.op=3\/x.op=4\/x.op=5\/x.op=6\/x.op=7\/x.op=8\/x.op=9\/x.op=10\/x.op=11\/x.op=12\/x.op=13\/x.op=14\/x.op=15\/x.op=16:=by
  obtain⟨h1,h2⟩:=hx.kind;clear hj hb hbk
  omega
 have PL:=xhN (ent:=ent') (E:=E') (d:=d) (m:=m) h.pl hx h17;have hk:=hx.kind;have hpc1:ff.pc+1=(bk (k+1):Int):=by rw[hbk,h.pc];omega
 have hpp1:pf.pc+1=((k+1:Nat):Int):=by rw[h.ppc];omega
 have same:x.op≠14->x.op≠15->x.op≠16->xcE B (xbh x k)=x:=fun a b c=>by
  have e:xbh x (k:Int)=x:=by unfold xbh;rw[if_neg a]
  rw[e];unfold xcE;rw[if_neg (by omega)]
 have push:∀ (v:QV),xao m.heap { pf with pc:=pf.pc+1 } x=some v->xao m.heap { ff with pc:=ff.pc+1 } x=some v->xqR FC TT bk mt (xaj ent E d m { ff with pc:=ff.pc+1 } ff.pc (xcE B (xbh x k))) (xaj ent' E' d m { pf with pc:=pf.pc+1 } pf.pc x):=fun v e1 e2=>by
  have:=xfb e1;rw[same (by omega) (by omega) (by omega)]
  rw[xdo e1] at PL;rw[xdo e1,xdo e2]
  exact⟨rfl,rfl,fun _=>⟨k+1,h.to (PL rfl) hpp1 rfl rfl rfl rfl rfl rfl rfl rfl rfl rfl rfl rfl hpc1 (by simp[Fr.push,h.stack])⟩⟩
 have htop:Fr.top { ff with pc:=ff.pc+1 }=Fr.top { pf with pc:=pf.pc+1 }:=by simp only[Fr.top,h.stack]
 rcases hops with o | o | o | o | o | o | o | o | o | o | o | o | o | o | o | o
 ·exact push pf.self (by simp[xao,o]) (by simp[xao,o,h.self])
 ·exact push (xaM pf.args x.a) (by simp[xao,o]) (by simp[xao,o,h.args])
 ·obtain⟨a0,a1⟩:=hx.temp (Or.inl o);obtain⟨i,hi⟩:∃ i:Nat,x.a=(i:Int):=⟨x.a.toNat,by omega⟩
  refine push (xaM pf.temps x.a) (by simp[xao,o]) ?_
  have e:xaM ff.temps x.a=xaM pf.temps x.a:=by rw[hi,xb9,xb9,h.temp (by omega)]
  simp[xao,o,e]
 ·exact push (xcF m.heap pf.self x.a) (by simp[xao,o]) (by simp[xao,o,h.self])
 ·exact push ⟨3,x.a⟩ (by simp[xao,o]) (by simp[xao,o])
 ·exact push xaU (by simp[xao,o]) (by simp[xao,o])
 ·exact push ⟨1,0⟩ (by simp[xao,o]) (by simp[xao,o])
 ·exact push ⟨2,0⟩ (by simp[xao,o]) (by simp[xao,o])
 ·rw[same (by omega) (by omega) (by omega)]
  rw[xhq o] at PL;rw[xhq o,xhq o]
  exact⟨rfl,rfl,fun _=>⟨k+1,h.to (PL rfl) hpp1 rfl rfl rfl rfl rfl rfl rfl rfl rfl rfl rfl rfl hpc1 (by simp[Fr.pop,h.stack])⟩⟩
 ·rw[same (by omega) (by omega) (by omega)]
  rw[xhr o] at PL;rw[xhr o,xhr o,htop]
  exact⟨rfl,rfl,fun _=>⟨k+1,h.to (PL rfl) hpp1 rfl rfl rfl rfl rfl rfl rfl rfl rfl rfl rfl rfl hpc1 (by simp[Fr.push,h.stack])⟩⟩
 ·obtain⟨a0,a1⟩:=hx.temp (Or.inr o);obtain⟨i,hi⟩:∃ i:Nat,x.a=(i:Int):=⟨x.a.toNat,by omega⟩
  rw[same (by omega) (by omega) (by omega)]
  rw[xgo o] at PL;rw[xgo o,xgo o,htop];refine⟨rfl,rfl,fun _=>⟨k+1,⟨PL rfl,hpp1,h.pmeth,h.fast,h.code,h.cls,h.meth,h.self,h.args,by simp[Fr.pop,h.stack],hpc1,?_,?_⟩⟩⟩
  ·simp only[xbE];exact h.tlen
  ·simp only[xbE,hi,xbS,List.length_set];rw[xjt,h.take]
 ·rw[same (by omega) (by omega) (by omega)]
  rw[xjb o] at PL;rw[xjb o,xjb o,htop]
  exact⟨by simp only[h.self],rfl,fun _=>⟨k+1,h.to (PL rfl) hpp1 rfl rfl rfl rfl rfl rfl rfl rfl rfl rfl rfl rfl hpc1 (by simp[Fr.pop,h.stack])⟩⟩
 ·rw[same (by omega) (by omega) (by omega)]
  rw[xmr o] at PL;rw[xmr o,xmr o];unfold xbV at PL ⊢;rw[hl.cls];rw[hl.cls'] at PL ⊢
  by_cases hz:60<=m.heap.length\/2147483647<xaY cs x.a
  ·rw[if_pos hz,if_pos hz]
   exact⟨rfl,rfl,fun h=>by simp at h⟩
  ·rw[if_neg hz] at PL;rw[if_neg hz,if_neg hz]
   exact⟨rfl,rfl,fun _=>⟨k+1,h.to (PL rfl) hpp1 rfl rfl rfl rfl rfl rfl rfl rfl rfl rfl rfl rfl hpc1 (by simp[Fr.push,h.stack])⟩⟩
 ·have e:xcE B (xbh x k)={ x with c:=(k:Int) }:=by
   have e1:xbh x (k:Int)={ x with c:=(k:Int) }:=by unfold xbh;rw[if_pos o]
   rw[e1];unfold xcE;rw[if_neg (by simp only;omega)]
  rw[xhA o] at PL;rw[e,xhA o,xhA (by exact o),xiw hl he hT (f:={ ff with pc:=ff.pc+1 }) (f':={ pf with pc:=pf.pc+1 }) (a':=pf.pc) (x:={ x with c:=(k:Int) }) (x':=x) h.stack rfl rfl]
  have hfr:(xbD ent' E' m { pf with pc:=pf.pc+1 } pf.pc x).2.2=0->∃ st,(xbD ent' E' m { pf with pc:=pf.pc+1 } pf.pc x).2.1={ pf with pc:=pf.pc+1,stack:=st }:=by
   unfold xbD;simp only;generalize ent' _ _ _ _ _=r;intro hz
   by_cases hr:r.2.2≠0
   ·rw[if_pos hr] at hz;exact absurd hz hr
   ·rw[if_neg hr];exact⟨_,rfl⟩
  generalize xbD ent' E' m { pf with pc:=pf.pc+1 } pf.pc x=r at PL hfr ⊢
  refine⟨rfl,rfl,fun hz=>?_⟩
  obtain⟨st,hst⟩:=hfr hz;have hP:=PL hz;rw[hst] at hP ⊢;simp only[hz]
  exact⟨k+1,h.to hP hpp1 rfl rfl rfl rfl rfl rfl rfl rfl rfl rfl rfl rfl hpc1 rfl⟩
 ·obtain⟨t,t1,t2,t3⟩:=hj (Or.inl o)
  have e:xcE B (xbh x k)={ x with a:=(bk t:Int) }:=by
   have e1:xbh x (k:Int)=x:=by unfold xbh;rw[if_neg (by omega)]
   rw[e1];unfold xcE;rw[if_pos (Or.inl o),t3]
  rw[xeg o,t1] at PL;rw[e,xeg o,xeg (by exact o),t1]
  exact xi8 h hb hkl hT t2 rfl rfl rfl rfl rfl rfl rfl rfl rfl rfl rfl rfl h.stack PL
 ·obtain⟨t,t1,t2,t3⟩:=hj (Or.inr o)
  have e:xcE B (xbh x k)={ x with a:=(bk t:Int) }:=by
   have e1:xbh x (k:Int)=x:=by unfold xbh;rw[if_neg (by omega)]
   rw[e1];unfold xcE;rw[if_pos (Or.inr o),t3]
  rw[xe6 o,t1] at PL;rw[e,xe6 o,xe6 (by exact o),t1]
  unfold xbz at PL ⊢;rw[htop]
  by_cases k2:(Fr.top { pf with pc:=pf.pc+1 }).k=2
  ·rw[if_pos k2] at PL;rw[if_pos k2,if_pos k2]
   exact⟨rfl,rfl,fun _=>⟨k+1,h.to (PL rfl) hpp1 rfl rfl rfl rfl rfl rfl rfl rfl rfl rfl rfl rfl hpc1 (by simp[Fr.pop,h.stack])⟩⟩
  ·rw[if_neg k2] at PL;rw[if_neg k2,if_neg k2]
   by_cases k1:(Fr.top { pf with pc:=pf.pc+1 }).k=1
   ·rw[if_pos k1] at PL;rw[if_pos k1,if_pos k1]
    exact xi8 h hb hkl hT t2 rfl rfl rfl rfl rfl rfl rfl rfl rfl rfl rfl rfl (by simp[Fr.pop,h.stack]) PL
   ·rw[if_neg k1,if_neg k1]
    exact⟨rfl,rfl,fun h=>by simp at h⟩
end
section
variable {σ:Type} {E E':Env σ} {d:Nat} {m:Mc σ}
theorem xne {cs:List QC}(hc:E'.cz=cs){q t:Int}{leaf:QM}(hm:xaI cs q t=some leaf){recv:QV}{as':List QV}(ha:leaf.args=as'.length)(hp:leaf.prim=0)(hq:E'.quick q t=none)(hT:TOk m) :
  xa4 E' d m q t recv as'=if (xau E' d m).2≠0 then (m,xaU,(xau E' d m).2) else goE (xa4 E' (d-1)) E' (d-1) (xau E' d m).1 ⟨q,leaf,recv,as',xaG leaf.temps,[],leaf.code,0,false⟩:=by
 have hfr:xaK E' q t leaf recv as'=⟨q,leaf,recv,as',xaG leaf.temps,[],leaf.code,0,false⟩:=by unfold xaK;rw[hq]
 cases d with
 | zero=>
  show xbc E' 0 _ m q t recv as'=_
  unfold xbc;rw[hc,hm];simp only;rw[if_neg (by omega),if_neg (by omega)]
  have hz:(xau E' 0 m).2≠0:=by unfold xau;split<;>simp
  rw[if_pos hz,if_pos hz]
 | succ d=>
  show xbc E' (d+1) _ m q t recv as'=_
  unfold xbc;rw[hc,hm];simp only;rw[if_neg (by omega),if_neg (by omega)]
  by_cases hz:(xau E' (d+1) m).2≠0
  ·rw[if_pos hz,if_pos hz]
  ·rw[if_neg hz,if_neg hz,hfr]
   exact xkm (xbK E' d) E' d (xc6 hT).1 (xg8 (xc6 hT).1)
theorem xo2 {FC:List QI}{TT:Nat}{bk:Nat->Nat}{mt:QM}{ff pf:Fr}{k:Nat}(h:FP FC TT bk mt ff pf k)(hm:0<=mt.temps/\mt.temps<=40)(ht:pf.temps.length<=TT):Fr.leave { ff with pc:=ff.pc+1 } (k:Int)=pf:=by
 have hlen:=h.pl.temps
 have e:(xaG ff.meth.temps).zipIdx.map (fun p=>(ff.temps[p.2]?).getD xaU)=pf.temps:=by
  obtain⟨n,hn⟩:∃ n:Nat,mt.temps=(n:Int):=⟨mt.temps.toNat,by omega⟩
  rw[h.meth,h.pmeth,hn,xdQ (by omega)]
  rw[h.pmeth,hn] at hlen
  apply List.ext_getElem?
  intro i;rw[List.getElem?_map,List.getElem?_zipIdx]
  by_cases hi:i<n
  ·have:=h.temp (i:=i) (by omega)
   rw[List.getElem?_replicate,if_pos hi];simp only[Option.map_some,Nat.zero_add,this];rw[List.getElem?_eq_getElem (by omega)]
   rfl
  ·rw[List.getElem?_replicate,if_neg hi,List.getElem?_eq_none (by omega)]
   rfl
 have hc:=h.pl.code;have hf:=h.pl.fast;obtain⟨pc,pm,ps,pa,pt,pk,pco,pp,pfa⟩:=pf;have h1:=h.cls;have h2:=h.meth;have h3:=h.self;have h4:=h.args;have h5:=h.stack;have h6:=h.ppc;simp only at *;unfold Fr.leave;simp only;rw[e,h1,h2,h3,h4,h5,hc,h6,hf]
theorem xjX {l:List QV}{A:Nat}(h:A+1<=l.length):∃ base recv as',l=base++[recv]++as'/\as'.length=A:=by
 obtain⟨n,hn⟩:∃ n,l.length=n+1+A:=⟨l.length-1-A,by omega⟩
 refine⟨l.take n,l[n]'(by omega),l.drop (n+1),?_,by simp;omega⟩
 have e:l.take n++[l[n]'(by omega)]=l.take (n+1):=by rw[List.take_add_one,List.getElem?_eq_getElem (by omega)];simp
 rw[e]
 exact (List.take_append_drop _ _).symm
theorem xkx {leaf:QM}(h:xdj leaf=true):leaf.prim=0/\∀ x∈leaf.code,x.op≠13/\x.op≠14:=by
 unfold xdj xcI at h
 simp at h
 exact⟨h.1,fun x hx=>⟨(h.2 x hx).2,(h.2 x hx).1⟩⟩
theorem xpu {cs:List QC}(hl:∀ st s k nm,E'.look st s k nm=(st,xaB cs k nm)){ent':Ent σ}{pf:Fr}{a:Int}{x:QI}{base as':List QV}{recv:QV}(hs:pf.stack=base++[recv]++as')(ha:x.a=(as'.length:Int)) :
  xbD ent' E' m pf a x=if (ent' m (xaB cs (xas m.heap recv) x.name).1 (xaB cs (xas m.heap recv) x.name).2 recv as').2.2≠0 then ((ent' m (xaB cs (xas m.heap recv) x.name).1 (xaB cs (xas m.heap recv) x.name).2 recv as').1,pf,(ent' m (xaB cs (xas m.heap recv) x.name).1 (xaB cs (xas m.heap recv) x.name).2 recv as').2.2) else ((ent' m (xaB cs (xas m.heap recv) x.name).1 (xaB cs (xas m.heap recv) x.name).2 recv as').1,{ pf with stack:=base++[(ent' m (xaB cs (xas m.heap recv) x.name).1 (xaB cs (xas m.heap recv) x.name).2 recv as').2.1] },0):=by
 have hf:xbp pf.stack x.a=(base++[recv]).length:=by unfold xbp;rw[hs,ha];simp;omega
 have h1:pf.stack.drop (xbp pf.stack x.a)=as':=by rw[hf,hs];exact List.drop_left
 have h2:pf.stack.take (xbp pf.stack x.a)=base++[recv]:=by rw[hf,hs];exact List.take_left
 unfold xbD;simp only[hl,h1,h2,xgF,List.dropLast_concat]
variable {X:QW} {mt:QM} {sites:List Int}
theorem xrT (hX:xaH X=0)(hSm:Sml mt)(hl:Like X.cz E E')(hq:E'.quick=xgC)(hent:xdR (xa4 E d) (xa4 E' d)) :
  ∀ (N:Nat) (m:Mc σ) (ff pf:Fr) (k:Nat),FP (xgk X.cz sites mt (xah X.cz sites mt mt.code.length).begins mt.code.length) (xah X.cz sites mt mt.code.length).temps.toNat (bgn X.cz sites mt) mt ff pf k->TOk m->muE m ff<=N->goE (xa4 E d) E d m ff=goE (xa4 E' d) E' d m pf:=by
  intro N;induction N using Nat.strongRecOn;rename_i N iH;intro m ff pf k h hT hN
  have ht:=xbK E d;have ht':=xbK E' d;obtain⟨k',x,hx⟩:=h.pl.nx;obtain rfl:k'=k:=by have:=hx.pc;have:=h.ppc;omega
  have hcode:pf.code=mt.code:=by rw[h.pl.code,h.pmeth]
  have hxk:mt.code[k']?=some x:=by rw[← hcode];exact hx.here
  have hkl:=xae hxk;have hfp:xbO pf=some x:=xeX h.ppc hx.here
  cases hw:xcZ X.cz sites mt k' with
  | none=>
   obtain⟨o1,o2⟩:=xoa (xah X.cz sites mt mt.code.length).begins hxk hw;have hff:xbO ff=some (xcE (xah X.cz sites mt mt.code.length).begins (xbh x k')):=xeX h.pc (by rw[h.code];exact o1)
   have hop:(xcE (xah X.cz sites mt mt.code.length).begins (xbh x k')).op=x.op:=by
    unfold xcE xbh
    split<;>split<;>rfl
   by_cases h17:x.op=17
   ·rw[xjq hff (by rw[hop];exact h17),xjq hfp h17]
    simp only[Fr.top,h.stack]
   ·obtain⟨b1,b2,b3⟩:=xmo (d:=d) hl hent h hT hx h17 (B:=(xah X.cz sites mt mt.code.length).begins) o2 (fun i j hi hj=>xrg hi hj) hkl (fun ho=>by
     obtain⟨a0,a1⟩:=hSm.jump x (List.mem_of_getElem? hxk) ho;refine⟨x.a.toNat,by omega,by omega,?_⟩
     rw[List.getD_eq_getElem?_getD,xgm (qzC _) x.a.toNat (by omega)]
     rfl)
    by_cases hz:(xaj (xa4 E' d) E' d m { pf with pc:=pf.pc+1 } pf.pc x).2.2=0
    ·obtain⟨g1,g2,-⟩:=xhB ht (E:=E) (d:=d) hT.1 hff (by rw[hop];exact h17) (by rw[b2];exact hz)
     obtain⟨l1,-,-⟩:=xhB ht' (E:=E') (d:=d) hT.1 hfp h17 hz;obtain⟨k2,hF⟩:=b3 hz;have hT':=xfK (E:=E') (d:=d) (f:={ pf with pc:=pf.pc+1 }) (at':=pf.pc) (x:=x) (xf7 E' d) hT hz
     rw[b1] at g1 g2;rw[g1,l1]
     exact iH (N-1) (by omega) _ _ _ k2 hF hT' (by omega)
    ·rw[xfQ hff (by rw[hop];exact h17) (by rw[b2];exact hz),xfQ hfp h17 hz,b1,b2]
  | some leaf=>
   obtain⟨o1,o2,o3⟩:=xiK (xah X.cz sites mt mt.code.length).begins hxk hw;have hwE:xdZ X.cz sites mt.code.length (xah X.cz sites mt k').code.length (xah X.cz sites mt k').temps k' x=some leaf:=by unfold xcZ at hw;rw[hxk] at hw;exact hw
   have hst:xa3 X.cz sites k' x=some leaf:=by
    unfold xdZ at hwE
    split at hwE
    ·cases hwE
    ·rename_i l hl'
     split at hwE
     ·cases hwE;exact hl'
     ·cases hwE
   obtain⟨hs,hax,hlf,ho⟩:=xbv hX hst;obtain⟨hprim,hops⟩:=xkx hlf;obtain⟨ks,hks⟩:∃ ks,ks=sites.getD k' (-1):=⟨_,rfl⟩
   have hmo:xd5 X.cz ks x.name=some leaf:=by
    rw[hks];unfold xa3 at hst
    split at hst
    ·split at hst
     ·cases hst
     ·rename_i y hy
      split at hst
      ·cases hst;exact hy
      ·cases hst
    ·cases hst
   have hma:=xeY hmo;obtain⟨A,hA⟩:∃ A:Nat,leaf.args=(A:Int):=⟨leaf.args.toNat,by have:=hs.args;omega⟩
   obtain⟨T,hTn⟩:∃ T:Nat,leaf.temps=(T:Int):=⟨leaf.temps.toNat,by have:=hs.temps;omega⟩
   have hT6:T<=40:=by have:=hs.temps;omega
   have hbs:=xci hX (sites:=sites) hSm (k:=k') (by omega)
   obtain⟨T0,hT0⟩:∃ T0:Nat,(xah X.cz sites mt k').temps=(T0:Int):=⟨(xah X.cz sites mt k').temps.toNat,by omega⟩
   have hwt:∀ (j:Nat) lf,xcZ X.cz sites mt j=some lf->0<=lf.args/\0<=lf.temps:=fun j lf hj=>by
    cases hc:mt.code[j]? with
    | none=>unfold xcZ at hj;rw[hc] at hj;cases hj
    | some y=>
     have hj':xdZ X.cz sites mt.code.length (xah X.cz sites mt j).code.length (xah X.cz sites mt j).temps j y=some lf:=by unfold xcZ at hj;rw[hc] at hj;exact hj
     unfold xdZ at hj'
     split at hj'
     ·cases hj'
     ·rename_i l hl'
      split at hj'
      ·cases hj'
       obtain⟨hs',-⟩:=xbv hX hl'
       exact⟨hs'.args.1,hs'.temps.1⟩
      ·cases hj'
   have hm1:=xdX hwt (n:=mt.code.length) (k:=k'+1) (by omega) (qzC _)
   have hm0:mt.temps<=(xah X.cz sites mt k').temps:=xdX hwt (n:=k') (k:=0) (by omega) (by omega)
   have htm:=h.pl.temps;rw[h.pmeth] at htm;have hroom:T0+1+A+T<=ff.temps.length:=by rw[h.tlen];omega
   have hneed:=hx.need;have hxa:x.a=(A:Int):=by omega
   have hsl:A+1<=pf.stack.length:=by simp only[xaS,ho] at hneed;simp at hneed;omega
   obtain⟨base,recv,as',hstk,hal⟩:=xjX hsl;have hP:PcAt (xgk X.cz sites mt (xah X.cz sites mt mt.code.length).begins mt.code.length) leaf (ins 18 ks (A:Int) (k':Int)) T0 A T (bgn X.cz sites mt k'):=xoe hA hTn (by rw[hks,← hA,← hT0];exact o1)
   have hsend:=xpu (E':=E') (m:=m) hl.look' (ent':=xa4 E' d) (pf:={ pf with pc:=pf.pc+1 }) (a:=pf.pc) (x:=x) hstk (by rw[hxa,hal])
   have hstep:xaj (xa4 E' d) E' d m { pf with pc:=pf.pc+1 } pf.pc x=xbD (xa4 E' d) E' m { pf with pc:=pf.pc+1 } pf.pc x:=xhA ho
   by_cases hk:xas m.heap recv=ks
   ·
    rw[hk] at hsend;obtain⟨q,hq1⟩:∃ q,q=(xaB X.cz ks x.name).1:=⟨_,rfl⟩;obtain⟨t,ht1⟩:∃ t,t=(xaB X.cz ks x.name).2:=⟨_,rfl⟩;rw[← hq1,← ht1] at hsend hma;have hqn:E'.quick q t=none:=by rw[hq];rfl
    have hent':=xne (E':=E') (d:=d) (m:=m) hl.cls' hma (recv:=recv) (as':=as') (by rw[hA,hal]) hprim hqn hT
    have hpl0:=xh0 hX hma hprim (a:=as') (by rw[hA,hal]) recv (E:=E') hqn
    have hfr:xaK E' q t leaf recv as'=⟨q,leaf,recv,as',xaG (T:Int),[],leaf.code,0,false⟩:=by unfold xaK;rw[hqn,hTn]
    rw[hfr] at hpl0;rw[hTn,← xe8 hl] at hent';have hpg:=xnT (ent:=xa4 E d) (ent':=xa4 E' (d-1)) (E:=E) (E':=E') (d:=d) (d':=d-1) (m:=m) (ff:=ff) (q:=q) (kc:=(k':Int)) ht (xbK E' (d-1)) (xf7 E' (d-1)) hP hT6 hops h.fast h.code h.pc (by rw[h.stack];exact hstk) hal hroom hpl0 hk hT
    rcases hpg with ⟨c1,c2⟩ | ⟨c1,⟨r1,r2⟩ | ⟨r1,r2,ff',r3,r4,r5⟩⟩
    ·rw[if_pos c1] at hent';rw[hent',if_pos c1] at hsend;rw[c2,xfQ hfp (by omega) (by rw[hstep,hsend];exact c1),hstep,hsend]
     simp only[Prod.mk.injEq,and_true];unfold xau at c1 ⊢
     split
     ·rfl
     ·split
      ·rfl
      ·rename_i z1 z2;rw[if_neg z1,if_neg z2] at c1
       simp at c1
    ·rw[if_neg (by simpa using c1)] at hent'
     rw[hent',if_pos r1] at hsend;rw[r2,xfQ hfp (by omega) (by rw[hstep,hsend];exact r1),hstep,hsend]
    ·rw[if_neg (by simpa using c1)] at hent'
     rw[hent',if_neg (by simpa using r1)] at hsend
     have hz:(xaj (xa4 E' d) E' d m { pf with pc:=pf.pc+1 } pf.pc x).2.2=0:=by rw[hstep,hsend]
     have hPL:=xhN (ent:=xa4 E' d) (E:=E') (d:=d) (m:=m) h.pl hx (by omega) hz
     obtain⟨l1,-,-⟩:=xhB ht' (E:=E') (d:=d) hT.1 hfp (by omega) hz
     rw[hstep,hsend] at l1 hPL;rw[r4,l1];refine iH (N-1) (by omega) _ _ _ (k'+1) ⟨hPL,?_,h.pmeth,r3.fast,r3.code,by rw[r3.cls];exact h.cls,by rw[r3.meth];exact h.meth,by rw[r3.self];exact h.self,by rw[r3.args];exact h.args,r3.stack,?_,by rw[r3.len];exact h.tlen,?_⟩ r2 (by omega)
     ·simp only[h.ppc];omega
     ·rw[r3.pc,o2,xbB,hA,hTn];simp only[Int.toNat_natCast];omega
     ·have e:=congrArg (List.take pf.temps.length) r3.take;rw[List.take_take,List.take_take,Nat.min_eq_left (by omega)] at e
      exact e.trans h.take
   ·
    have hbelow:xaQ ff.stack (A:Int)=recv:=by
     unfold xaQ;rw[h.stack,show ((pf.stack.length:Int)-1-A)=((base.length:Nat):Int) by rw[hstk];simp;omega,xb9,hstk,List.append_assoc]
     rw[List.getElem?_append_right (qzC _)]
     simp
    have hff:xbO ff=some (ins 18 ks (A:Int) (k':Int)):=xeX h.pc (by rw[h.code];exact hP.guard)
    have hms:xaj (xa4 E d) E d m { ff with pc:=ff.pc+1 } ff.pc (ins 18 ks (A:Int) (k':Int))=(m,pf,0):=by
     rw[xgn (by simp)]
     have hb':xaQ { ff with pc:=ff.pc+1 }.stack (A:Int)=recv:=hbelow
     have hlv:=xo2 h (by have:=hSm.temps;omega) (by omega)
     simp only[xbQ,h.fast,ins,hb',hk]
     simp
     unfold Fr.leave at hlv ⊢
     exact hlv
    obtain⟨g1,-,-⟩:=xhB ht (E:=E) (d:=d) hT.1 hff (by simp) (by rw[hms])
    rw[hms] at g1;rw[g1]
    exact xpD hl hent (xf7 E' d) hT pf
end
section
variable {σ:Type} {E E':Env σ} {X:QW}
def xrA (X:QW)(E:Env σ):Prop:=∀ c n q mt,E.quick c n=some q->xaI X.cz c n=some mt->∃ sites,(xce X c mt sites).2=true/\q=((xce X c mt sites).1.code,(xce X c mt sites).1.temps)
theorem xht {c:Int}{mt:QM}{sites:List Int}(hX:xaH X=0)(hSm:Sml mt)(h:(xce X c mt sites).2=true):(xce X c mt sites).1.code=xgk X.cz sites mt (xah X.cz sites mt mt.code.length).begins mt.code.length/\(xce X c mt sites).1.temps=(xah X.cz sites mt mt.code.length).temps:=by
 rw[← xov hX hSm];unfold xce at h ⊢;simp only at h ⊢
 split
 ·rename_i hz;rw[if_pos hz] at h;cases h
 ·exact⟨rfl,rfl⟩
theorem xnk (hX:xaH X=0){mt:QM}{sites:List Int}:∀ (j:Nat) lf,xcZ X.cz sites mt j=some lf->0<=lf.args/\0<=lf.temps:=fun j lf hj=>by
 cases hc:mt.code[j]? with
 | none=>unfold xcZ at hj;rw[hc] at hj;cases hj
 | some y=>
  have hj':xdZ X.cz sites mt.code.length (xah X.cz sites mt j).code.length (xah X.cz sites mt j).temps j y=some lf:=by unfold xcZ at hj;rw[hc] at hj;exact hj
  unfold xdZ at hj'
  split at hj'
  ·cases hj'
  ·rename_i l hl'
   split at hj'
   ·cases hj'
    obtain⟨hs',-⟩:=xbv hX hl'
    exact⟨hs'.args.1,hs'.temps.1⟩
   ·cases hj'
theorem xha {cs:List QC}(hl:Like cs E E')(d:Nat){body body':Mc σ->Fr->Mc σ × QV × Int}(hb:∀ m c n mt s a,xaI cs c n=some mt->mt.args=a.length->mt.prim=0->TOk m->body m (xaK E c n mt s a)=body' m (xaK E' c n mt s a)):xdR (xbc E d body) (xbc E' d body'):=by
 intro m c n s a hT;unfold xbc;rw[hl.cls,hl.cls']
 cases hm:xaI cs c n with
 | none=>rfl
 | some mt=>
  simp only
  by_cases h1:mt.args≠a.length
  ·rw[if_pos h1,if_pos h1]
  ·rw[if_neg h1,if_neg h1]
   by_cases h2:mt.prim≠0
   ·rw[if_pos h2,if_pos h2,hl.fuel]
   ·rw[if_neg h2,if_neg h2,xe8 hl]
    by_cases h3:(xau E' d m).2≠0
    ·rw[if_pos h3,if_pos h3]
    ·rw[if_neg h3,if_neg h3]
     exact hb _ c n mt s a hm (by omega) (by omega) (xc6 hT)
theorem xkH (hX:xaH X=0)(hl:Like X.cz E E')(hq:E'.quick=xgC)(hk:xrA X E):∀ d:Nat,xdR (xa4 E d) (xa4 E' d)
 | 0=>xha hl 0 fun m c n mt s a _ _ _ _=>rfl
 | d+1=>by
  refine xha hl (d+1) fun m c n mt s a hm ha hp hT=>?_
  have ih:=xkH hX hl hq hk d;have hqn:E'.quick c n=none:=by rw[hq];rfl
  have hfr':xaK E' c n mt s a=⟨c,mt,s,a,xaG mt.temps,[],mt.code,0,false⟩:=by unfold xaK;rw[hqn]
  have hpl:=xh0 hX hm hp (a:=a) ha s (E:=E') hqn;have hSm:=xda hX hm
  cases hqe:E.quick c n with
  | none=>
   have hfr:xaK E c n mt s a=xaK E' c n mt s a:=by rw[hfr'];unfold xaK;rw[hqe]
   show xb7 (xa4 E d) E d _ m _=xb7 (xa4 E' d) E' d _ m _
   rw[hfr]
   exact xhO hl ih (xf7 E' d) _ m _ hT
  | some q=>
   obtain⟨sites,h1,h2⟩:=hk c n q mt hqe hm;obtain⟨p1,p2⟩:=xht hX hSm h1;rw[p1,p2] at h2;have hfr:xaK E c n mt s a=⟨c,mt,s,a,xaG (xah X.cz sites mt mt.code.length).temps,[],xgk X.cz sites mt (xah X.cz sites mt mt.code.length).begins mt.code.length,0,true⟩:=by unfold xaK;rw[hqe,h2]
   have hbs:=xci hX (sites:=sites) hSm (k:=mt.code.length) (qzC _);have hmono:mt.temps<=(xah X.cz sites mt mt.code.length).temps:=xdX (xnk hX) (n:=mt.code.length) (k:=0) (by omega) (qzC _)
   have hms:=hSm.temps;obtain⟨TT,hTT⟩:∃ TT:Nat,(xah X.cz sites mt mt.code.length).temps=(TT:Int):=⟨(xah X.cz sites mt mt.code.length).temps.toNat,by omega⟩
   obtain⟨nt,hnt⟩:∃ nt:Nat,mt.temps=(nt:Int):=⟨mt.temps.toNat,by omega⟩
   show xb7 (xa4 E d) E d _ m _=xb7 (xa4 E' d) E' d _ m _
   rw[xkm (xbK E d) E d hT.1 (xg8 hT.1),xkm (xbK E' d) E' d hT.1 (xg8 hT.1),hfr];refine xrT hX hSm hl hq ih _ m _ _ 0 ⟨hpl,by rw[hfr'];rfl,by rw[hfr'],rfl,rfl,by rw[hfr'],by rw[hfr'],by rw[hfr'],by rw[hfr'],by rw[hfr'],rfl,?_,?_⟩ hT (qzC _)
   ·simp only[hTT];rw[xdQ (by omega)];simp
   ·rw[hfr'];simp only[hTT,hnt];rw[xdQ (by omega),xdQ (by omega)]
    simp
    omega
end
theorem xfi:∀ (x y z:List UInt8),Op.bytesLess x y=true->Op.bytesLess y z=true->Op.bytesLess x z=true
 | [],[],z,h,_=>by simp[Op.bytesLess] at h
 | [],b :: y,[],_,k=>by simp[Op.bytesLess] at k
 | [],b :: y,c :: z,_,_=>by simp[Op.bytesLess]
 | a :: x,[],z,h,_=>by simp[Op.bytesLess] at h
 | a :: x,b :: y,[],_,k=>by simp[Op.bytesLess] at k
 | a :: x,b :: y,c :: z,h,k=>by
  simp only[Op.bytesLess,Bool.or_eq_true,decide_eq_true_eq,Bool.and_eq_true,beq_iff_eq] at h k ⊢
  rcases h with h | ⟨rfl,h⟩
  ·rcases k with k | ⟨rfl,k⟩
   ·exact Or.inl (UInt8.lt_trans h k)
   ·exact Or.inl h
  ·rcases k with k | ⟨rfl,k⟩
   ·exact Or.inl k
   ·exact Or.inr ⟨rfl,xfi x y z h k⟩
theorem xfI:∀ (x:List UInt8),Op.bytesLess x x=false
 | []=>rfl
 | a :: x=>by simp[Op.bytesLess,xfI x]
theorem xku:∀ (x y:List UInt8),Op.bytesLess x y=true\/x=y\/Op.bytesLess y x=true
 | [],[]=>Or.inr (Or.inl rfl)
 | [],b :: y=>Or.inl (by simp[Op.bytesLess])
 | a :: x,[]=>Or.inr (Or.inr (by simp[Op.bytesLess]))
 | a :: x,b :: y=>by
  simp only[Op.bytesLess,Bool.or_eq_true,decide_eq_true_eq,Bool.and_eq_true,beq_iff_eq]
  rcases UInt8.lt_or_lt_of_ne (a:=a) (b:=b) |> fun h=>(Classical.em (a=b)).elim (fun e=>Or.inr e) (fun e=>Or.inl (h e)) with (h | h) | rfl
  ·exact Or.inl (Or.inl h)
  ·exact Or.inr (Or.inr (Or.inl h))
  ·rcases xku x y with h | rfl | h
   ·exact Or.inl (Or.inr ⟨rfl,h⟩)
   ·exact Or.inr (Or.inl rfl)
   ·exact Or.inr (Or.inr (Or.inr ⟨rfl,h⟩))
theorem xpB {a b:ByteArray}:gtN a b=true ↔ ltN b a=true:=by
 unfold gtN ltN
 constructor
 ·intro h;simp only[Bool.and_eq_true,Bool.not_eq_true',beq_eq_false_iff_ne] at h
  rcases xku a.toList b.toList with k | k | k
  ·rw[h.1] at k;cases k
  ·exact absurd k (by simpa using h.2)
  ·exact k
 ·intro h
  have h1:Op.bytesLess a.toList b.toList=false:=by
   cases k:Op.bytesLess a.toList b.toList
   ·rfl
   ·have:=xfi _ _ _ h k;rw[xfI] at this;cases this
  have h2:¬ a.toList=b.toList:=fun e=>by rw[e,xfI] at h;cases h
  simp[h1,h2]
theorem xfF {a b:ByteArray}:eqN a b=true ↔ a.toList=b.toList:=by simp[eqN]
theorem xrm {a b c:ByteArray}(h:eqN a b=true)(k:ltN a c=true):ltN b c=true:=by
 unfold ltN at k ⊢;rw[← xfF.1 h];exact k
theorem xgu {a b c:ByteArray}(h:ltN a b=true)(k:ltN b c=true):ltN a c=true:=xfi _ _ _ h k
theorem xeF {a b:ByteArray}(h:ltN b a=true):eqN a b=false:=by
 cases k:eqN a b
 ·rfl
 ·unfold ltN at h;rw[xfF.1 k,xfI] at h;cases h
end Go.Proofs.Ytdfbgpiikeheiaa
