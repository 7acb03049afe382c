/- A part. -/
import Derived.Test.YtapbeiccodnniaaGreatM2
import Derived.ArgAppend
namespace Go.Proofs.YtapbeiccodnniaaGreat
open Go.ChangeShapes Go.WideShapes Go.ChangeAt Go.RowKit
set_option linter.unusedSimpArgs false
set_option linter.unusedVariables false
set_option maxHeartbeats 8000000
theorem xeT {code:List QI}{h:List Int}{p f:Int × Int}(he:xcM code h p=.inl f):f.1≠0:=by
 unfold xcM at he
 cases hx:xc3 code p.1 with
 | none=>rw[hx] at he;simp at he;rw[← he];simp
 | some x=>
  rw[hx] at he;simp only at he
  (repeat' split at he)<;>simp at he<;>rw[← he]<;>simp
def HAt (code:List QI)(h:List Int)(q:List (Int × Int))(k:Nat)(x:QI):Prop:=
 (xaN x k).need<=h.getD k 0/\h.getD k 0<=12/\(x.op=17->h.getD k 0=1)/\
  ∀ t∈(xaN x k).next,(t,h.getD k 0+(xaN x k).more)∈q\/∃ j:Nat,t=(j:Int)/\j<code.length/\h.getD j 0=h.getD k 0+(xaN x k).more
def HClo (code:List QI)(h:List Int)(q:List (Int × Int)):Prop:=
 ((0,0)∈q\/0<code.length/\h.getD 0 0=0)/\∀ (k:Nat) x,code[k]?=some x->0<=h.getD k 0->HAt code h q k x
theorem HClo.start (code:List QI):HClo code (xcS code.length) [(0,0)]:=by
 refine⟨Or.inl (by simp),fun k x hx h0=>?_⟩
 have hk:=xae hx
 simp[xcS,hk] at h0
theorem xga {h:List Int}{k:Nat}{v:Int}(hk:k<h.length):(h.set k v).getD k 0=v:=by simp[hk]
theorem xbC {h:List Int}{k j:Nat}{v:Int}(hk:k≠j):(h.set k v).getD j 0=h.getD j 0:=by simp[List.getElem?_set_ne hk]
theorem HClo.step {code:List QI}{h h':List Int}{p:Int × Int}{q new:List (Int × Int)}(hi:HInv code h (p :: q))(hc:HClo code h (p :: q))(hs:xc5 code)(he:xcM code h p=.inr (h',new)):HClo code h' (q++new):=by
 have hw:=hi.wait p (by simp)
 unfold xcM at he
 cases hx:xc3 code p.1 with
 | none=>rw[hx] at he;cases he
 | some x=>
  rw[hx] at he;simp only at he;obtain⟨k,hk,hxk⟩:=xdp hx;have hkl:=xae hxk;have hpk:p.1.toNat=k:=by omega
  rw[hpk] at he
  split at he
  ·rename_i hge
   split at he
   ·cases he
   ·rename_i heq;simp only[Sum.inr.injEq,Prod.mk.injEq] at he;obtain⟨rfl,rfl⟩:=he;have heq':h.getD k 0=p.2:=by simpa using heq
    have mem:∀ t v,(t,v)∈p :: q->(t,v)∈q++[]\/∃ j:Nat,t=(j:Int)/\j<code.length/\h.getD j 0=v:=fun t v hm=>by
     rcases List.mem_cons.1 hm with e | e
     ·exact Or.inr ⟨k,by rw[← hk,← e],hkl,by rw[heq',← e]⟩
     ·exact Or.inl (by simpa using e)
    refine⟨?_,fun j y hy h0=>?_⟩
    ·rcases hc.1 with e | e
     ·rcases mem 0 0 e with e | ⟨j,e1,e2,e3⟩
      ·exact Or.inl e
      ·obtain rfl:j=0:=by omega
       exact Or.inr ⟨e2,e3⟩
     ·exact Or.inr e
    ·obtain⟨a1,a2,a3,a4⟩:=hc.2 j y hy h0;refine⟨a1,a2,a3,fun t ht=>?_⟩
     rcases a4 t ht with e | e
     ·exact mem _ _ e
     ·exact Or.inr e
  ·rename_i hneg
   split at he
   ·cases he
   ·rename_i hfit
    split at he
    ·cases he
    ·rename_i hmuch;simp only[Sum.inr.injEq,Prod.mk.injEq] at he;obtain⟨rfl,rfl⟩:=he;have hl:k<h.length:=by rw[hi.len];exact hkl
     have hself:(h.set k p.2).getD k 0=p.2:=xga hl
     have mem:∀ t v,(t,v)∈p :: q->(t,v)∈q++(xaN x p.1).next.map (fun t=>(t,p.2+(xaN x p.1).more))\/∃ j:Nat,t=(j:Int)/\j<code.length/\(h.set k p.2).getD j 0=v:=fun t v hm=>by
      rcases List.mem_cons.1 hm with e | e
      ·exact Or.inr ⟨k,by rw[← hk,← e],hkl,by rw[hself,← e]⟩
      ·exact Or.inl (List.mem_append_left _ e)
     refine⟨?_,fun j y hy h0=>?_⟩
     ·rcases hc.1 with e | e
      ·rcases mem 0 0 e with e | ⟨j,e1,e2,e3⟩
       ·exact Or.inl e
       ·obtain rfl:j=0:=by omega
        exact Or.inr ⟨e2,e3⟩
      ·refine Or.inr ⟨e.1,?_⟩
       by_cases hk0:k=0
       ·subst hk0;rw[e.2] at hneg;omega
       ·rw[xbC hk0];exact e.2
     ·by_cases hjk:j=k
      ·subst hjk;rw[hxk] at hy
       cases hy
       unfold HAt;rw[hself,← hk];refine⟨?_,hw.2,fun h17=>?_,fun t ht=>Or.inl (List.mem_append_right _ (List.mem_map.2 ⟨t,ht,rfl⟩))⟩
       ·have:¬ (p.2<(xaN x p.1).need):=fun h=>hfit (Or.inl h)
        omega
       ·have:¬ (p.2≠1):=fun h=>hfit (Or.inr ⟨h17,h⟩)
        omega
      ·have hjk':k≠j:=fun e=>hjk e.symm
       rw[xbC hjk'] at h0;obtain⟨a1,a2,a3,a4⟩:=hc.2 j y hy h0;unfold HAt;rw[xbC hjk'];refine⟨a1,a2,a3,fun t ht=>?_⟩
       rcases a4 t ht with e | ⟨i,e1,e2,e3⟩
       ·exact mem _ _ e
       ·refine Or.inr ⟨i,e1,e2,?_⟩;have hr:=xdI (x:=y) (hs y (List.mem_of_getElem? hy)) j;have hik:k≠i:=fun e=>by subst e;omega
        rw[xbC hik];exact e3
theorem xkf {code:List QI}(hs:xc5 code):∀ (g:Nat) (h:List Int) (q:List (Int × Int)),HInv code h q->HClo code h q->xec h q<=g->(xhD code g h q).2.1=0->HInv code (xhD code g h q).1 []/\HClo code (xhD code g h q).1 []
 | 0,h,q,hi,hc,hg,he=>by
  have:q=[]:=List.eq_nil_of_length_eq_zero (by unfold xec at hg;omega)
  subst this
  exact⟨hi,hc⟩
 | g+1,h,[],hi,hc,hg,he=>⟨hi,hc⟩
 | g+1,h,p :: q,hi,hc,hg,he=>by
  unfold xhD at he ⊢
  cases hst:xcM code h p with
  | inl f=>rw[hst] at he;exact absurd he (xeT hst)
  | inr r=>
   obtain⟨h',new⟩:=r;rw[hst] at he;have h1:=hi.step hs hst
   exact xkf hs g h' (q++new) h1.1 (hc.step hi hs hst) (by omega) he
theorem xf3 {code:List QI}(hs:xc5 code)(he:(xaH code).2.1=0):(xaH code).1.length=code.length/\0<code.length/\(xaH code).1.getD 0 0=0/\∀ (k:Nat) x,code[k]?=some x->0<=(xaH code).1.getD k 0->
  (xaN x k).need<=(xaH code).1.getD k 0/\(xaH code).1.getD k 0<=12/\(x.op=17->(xaH code).1.getD k 0=1)/\∀ t∈(xaN x k).next,∃ j:Nat,t=(j:Int)/\j<code.length/\(xaH code).1.getD j 0=(xaH code).1.getD k 0+(xaN x k).more:=by
 obtain⟨h1,h2,h3⟩:=xkf hs _ _ _ (HInv.start code) (HClo.start code) (Nat.le_of_eq (xfe code)) he
 have h0:0<code.length/\(xaH code).1.getD 0 0=0:=by
  rcases h2 with h | h;· simp at h
  ·exact h
 refine⟨h1.len,h0.1,h0.2,fun k x hx hk=>?_⟩
 obtain⟨a1,a2,a3,a4⟩:=h3 k x hx hk;refine⟨a1,a2,a3,fun t ht=>?_⟩
 rcases a4 t ht with e | e
 ·simp at e
 ·exact e
set_option maxRecDepth 8000
def ownsAt (w:World)(base:Nat)(e:TypeId)(sz:Nat)(v:Value)(n:Nat)(xs:List Value):Prop:=
 xs.length=n*sz/\((v=.slice none 0 0/\n=0)\/∃ g o cap cur,v=.slice (some ⟨g,o,none⟩) n cap/\base<=g/\w.heap[g]?=some (.cells cur e (0,0))/\n<=cap/\cap<=maxLen/\o+cap*sz<=cur.size/\(cur.toList.drop o).take (n*sz)=xs)
theorem ownsAt.keep {w w':World}{base:Nat}{e:TypeId}{sz:Nat}{v:Value}{n:Nat}{xs:List Value}(h:ownsAt w base e sz v n xs)(hk:∀ g,v.ownBlock=some g->w'.heap[g]?=w.heap[g]?):ownsAt w' base e sz v n xs:=by
 obtain⟨h1,h2 | ⟨g,o,cap,cur,rfl,h3,h4,h5⟩⟩:=h
 ·exact⟨h1,Or.inl h2⟩
 ·exact⟨h1,Or.inr ⟨g,o,cap,cur,rfl,h3,by rw[hk g (by simp[Value.ownBlock])];exact h4,h5⟩⟩
theorem ownsAt.lt {w:World}{base:Nat}{e:TypeId}{sz:Nat}{v:Value}{n:Nat}{xs:List Value}(h:ownsAt w base e sz v n xs):∀ g,v.ownBlock=some g->base<=g/\g<w.heap.size:=by
 obtain⟨h1,h2 | ⟨g,o,cap,cur,rfl,h3,h4,h5⟩⟩:=h
 ·intro g hg;rw[h2.1] at hg;cases hg
 ·intro g' hg
  simp[Value.ownBlock] at hg
  subst hg
  exact⟨h3,xaf h4⟩
theorem ownsAt.alloc {w:World}{base:Nat}{e:TypeId}{sz:Nat}{v:Value}{n:Nat}{xs:List Value}(h:ownsAt w base e sz v n xs)(o:Obj):ownsAt (w.alloc o) base e sz v n xs:=
 h.keep fun g hg=>(xaj w o).block _ (h.lt g hg).2
theorem ownsAt.form {w:World}{base:Nat}{e:TypeId}{sz:Nat}{v:Value}{n:Nat}{xs:List Value}(h:ownsAt w base e sz v n xs):∃ a cap,v=.slice a n cap/\n<=cap/\cap<=maxLen:=by
 obtain⟨-,⟨rfl,rfl⟩ | ⟨g,o,cap,cur,rfl,-,-,h1,h2,-⟩⟩:=h
 ·exact⟨none,0,rfl,qzC _,by unfold maxLen;omega⟩
 ·exact⟨_,cap,rfl,h1,h2⟩
theorem xdl {g:Nat}{t:TypeId}:∀ (vs:List Value) (o:Nat) (w:World) (cur:Array Value),w.heap[g]?=some (.cells cur t (0,0))->o+vs.length<=cur.size->(w.setCells g o vs).heap[g]?=some (.cells (cur.toList.take o++vs++cur.toList.drop (o+vs.length)).toArray t (0,0))
 | [],o,w,cur,h,hl=>by simpa [World.setCells] using h
 | v :: vs,o,w,cur,h,hl=>by
  simp only[List.length_cons] at hl;unfold World.setCells;rw[xdl vs (o+1) _ _ (xad h v) (by simp;omega)]
  congr 3
  apply List.ext_getElem?
  intro i;simp only[Array.toList_setIfInBounds,List.length_cons,List.getElem?_append,List.length_append,List.length_take,List.length_set,Array.length_toList,List.getElem?_take,List.getElem?_drop,List.getElem?_set,List.getElem?_cons];have e1:min (o+1) cur.size=o+1:=by omega
  have e2:min o cur.size=o:=by omega
  rw[e1,e2]
  by_cases h1:i<o
  ·simp[h1,show i<o+1 by omega,show i<o+1+vs.length by omega,show i<o+(vs.length+1) by omega,show ¬ o=i by omega]
  ·by_cases h2:i=o
   ·subst h2
    simp[show i<i+1+vs.length by omega,show i<cur.size by omega]
   ·by_cases h3:i<o+1+vs.length
    ·obtain⟨d,rfl⟩:∃ d,i=o+1+d:=⟨i-(o+1),by omega⟩
     simp[show ¬ (o+1+d<o) by omega,h3,show o+1+d<o+(vs.length+1) by omega,show ¬ (o+1+d<o+1) by omega,show o+1+d-(o+1)=d by omega,show o+1+d-o=d+1 by omega]
    ·have h4:¬ (i<o+(vs.length+1)):=by omega
     simp only[h3,h4,if_false,show ¬ i<o by omega]
     rw[show o+1+vs.length+(i-(o+1+vs.length))=i by omega,show o+(vs.length+1)+(i-(o+(vs.length+1)))=i by omega]
     simp[show ¬ o=i by omega]
theorem xbB (g:Nat):∀ (vs:List Value) (o:Nat) (w:World),Below g w (w.setCells g o vs)
 | [],o,w=>qzL _ _
 | v :: vs,o,w=>by
  unfold World.setCells
  exact ((qzL g w).setCell (qzC g) _).trans (xbB g vs (o+1) _)
theorem xdq {w:World}{base base':Nat}{e:TypeId}{sz:Nat}{v:Value}{n:Nat}{xs:List Value}(h:w.ownsRow base' e sz v n xs)(hb:base<=base'):ownsAt w base e sz v n xs:=by
 obtain⟨h1,h2 | ⟨g,c,cur,e,h3,h4,h5,h6,h7,h8⟩⟩:=h
 ·exact⟨h1,Or.inl h2⟩
 ·exact⟨h1,Or.inr ⟨g,0,c,cur,e,by omega,h4,h5,h6,by omega,by simpa using h8⟩⟩
theorem xaF {w:World}(T ty e:TypeId)(z:Value)(sz bytes:Nat)(hT:Tryz.prog.underlying T=some (.slice e))(hI:(Tryz.prog.info? e).map (fun i=>(i.zero,i.size,i.bytes))=some (some z,sz,bytes))(hzs:z.cells.size=sz)(hsz:0<sz)
  (base n:Nat) (v:Value) (xs:List Value) (hown:ownsAt w base e sz v n xs) (Bb:Nat) (news:List Value) (hl:news.length=sz) (hX:w.heap[Bb]?=some (.cells news.toArray e (0,0))) (h1:∀ u∈news,u.oneCell'=true) (h63:n+1<=maxLen) (hby:(n+1)*bytes<=140737488355328) (hbase:base<=w.heap.size) :
  ∃ v' w',(Builtin.append_ #[T,T] ty #[v,.slice (some ⟨Bb,0,none⟩) 1 1]).run Tryz.prog w=.ok v' w'/\ownsAt w' base e sz v' (n+1) (xs++news)/\(v'.ownBlock=v.ownBlock\/∃ g,v'.ownBlock=some g/\w.heap.size<=g)/\Below base w w'/\(∀ b,b<w.heap.size->some b≠v.ownBlock->w'.heap[b]?=w.heap[b]?):=by
 obtain⟨i0,hi,hz0,hz1,hz2⟩:=xa3 hI;have hnews:∀ j u,news[j]?=some u->w.cell? ((⟨Bb,0,none⟩:Addr).add j)=some u:=fun j u hu=>by rw[Addr.add_lit,Nat.zero_add,qzB hX];simpa using hu
 obtain⟨hxl,⟨rfl,rfl⟩ | ⟨g,o,cap,cur,rfl,h3,h4,h5,h6,h7,h8⟩⟩:=id hown
 ·obtain⟨v',w',hrun,r1,r2,_⟩:=run_append_own (P:=Tryz.prog) w w.heap.size T ty e i0 z sz bytes hT hi hz0 hz1 hz2 hzs hsz (.slice none 0 0) 0 [] (World.ownsRow_nil w _ e sz) ⟨Bb,0,none⟩ 1 1 news (by omega) hnews h1 h63 hby (qzC _)
  have hxs:xs=[]:=List.eq_nil_of_length_eq_zero (by simpa using hxl)
  subst hxs;refine⟨v',w',hrun,xdq (by simpa using r1) hbase,Or.inr ?_,?_,fun b hb hne=>r2.block b hb hne⟩
  ·obtain⟨-,h | ⟨g,c,cur,e,h3,h4,-⟩⟩:=r1
   ·omega
   ·exact⟨g,by rw[e];rfl,h3⟩
  ·exact (qzL _ _).grown r2 hbase fun k hk=>by cases hk
 ·by_cases hr:n+1<=cap
  ·have hcs:cur.toList.length=cur.size:=by simp
   have hon:o+n*sz+news.length<=cur.size:=by
    have:(n+1)*sz<=cap*sz:=Nat.mul_le_mul_right _ hr;rw[Nat.add_mul] at this
    omega
   have hrun:=run_append_room_cells (P:=Tryz.prog) w T ty e i0 hT hi g o n cap ⟨Bb,0,none⟩ 1 1 news (by rw[hz1];omega) hnews h1 hr (fun j hj=>by rw[hz1,qzB h4];simp;omega) (fun j hj=>by unfold World.frozen?;simp[h4])
   rw[hz1] at hrun;have hrow:=xdl news (o+n*sz) w cur h4 hon;refine⟨_,_,hrun,⟨by rw[List.length_append,hxl,hl,Nat.add_mul];omega,Or.inr ⟨g,o,cap,_,rfl,h3,hrow,hr,h6,?_,?_⟩⟩,Or.inl rfl,?_,fun b hb hne=>xaI (fun e=>hne (by rw[e];rfl)) _ _ _⟩
   ·simp
    omega
   ·rw[← h8]
    apply List.ext_getElem?
    intro i;simp only[List.getElem?_take,List.getElem?_drop,List.getElem?_append,List.length_append,List.length_take,List.length_drop,hcs];have e1:min (o+n*sz) cur.size=o+n*sz:=by omega
    have e2:min (n*sz) (cur.size-o)=n*sz:=by omega
    rw[e1,e2];have e3:(n+1)*sz=n*sz+sz:=by rw[Nat.add_mul];omega
    rw[e3]
    by_cases g1:i<n*sz
    ·simp[g1,show i<n*sz+sz by omega,show o+i<o+n*sz by omega,show o+i<o+n*sz+news.length by omega]
    ·by_cases g2:i<n*sz+sz
     ·simp[g1,g2,show ¬ (o+i<o+n*sz) by omega,show o+i<o+n*sz+news.length by omega,show o+i-(o+n*sz)=i-n*sz by omega]
     ·simp[g1,g2]
      omega
   ·refine⟨?_,?_,?_,?_,fun k hk=>xaI (by omega) _ _ _⟩
    ·exact (xbB _ _ _ _).os
    ·exact (xbB _ _ _ _).tape
    ·exact (xbB _ _ _ _).output
    ·rw[xbh];exact qzC _
  ·obtain⟨v',w',hrun,r1,r2⟩:=run_append_arg_grows (P:=Tryz.prog) w T ty e i0 z sz bytes hT hi hz0 hz1 hz2 hzs hsz ⟨g,o,none⟩ n cap xs hxl (fun j u hu=>by
    rw[Addr.add_lit,qzB h4];rw[← h8,List.getElem?_take] at hu
    split at hu
    ·rw[List.getElem?_drop] at hu;simpa using hu
    ·cases hu) ⟨Bb,0,none⟩ 1 1 news (by omega) hnews (by omega) h63 hby
   refine⟨v',w',hrun,xdq r1 hbase,Or.inr ?_,?_,fun b hb hne=>r2.block b hb (by simp)⟩
   ·obtain⟨-,h | ⟨g,c,cur,e,h3,h4,-⟩⟩:=r1
    ·omega
    ·exact⟨g,by rw[e];rfl,h3⟩
   ·exact (qzL _ _).grown r2 hbase fun k hk=>by cases hk
theorem xce {ops:Array Oper}{rest:List Oper}{o:Oper}{a:Act}{w:World}{Q:Exit->Act->World->Prop}(hgd:o.guard=none)(s x:Operand)(T e:TypeId)(z:Value)(sz bytes:Nat)
  (hop:o.op=Op.call { callee:=Callee.builtin Builtin.append,args:=#[s,x],argTypes:=#[T,T] }) (hT:Tryz.prog.underlying T=some (.slice e)) (hI:(Tryz.prog.info? e).map (fun i=>(i.zero,i.size,i.bytes))=some (some z,sz,bytes)) (hzs:z.cells.size=sz) (hsz:0<sz)
  (base n:Nat) (v:Value) (xs:List Value) (hs:a.eval s=v) (hown:ownsAt w base e sz v n xs) (Bb:Nat) (hx:a.eval x=.slice (some ⟨Bb,0,none⟩) 1 1) (news:List Value) (hl:news.length=sz) (hX:w.heap[Bb]?=some (.cells news.toArray e (0,0))) (h1:∀ u∈news,u.oneCell'=true) (h63:n+1<=maxLen) (hby:(n+1)*bytes<=140737488355328) (hbase:base<=w.heap.size)
  (hK:∀ a' cap' w',ownsAt w' base e sz (.slice a' (n+1) cap') (n+1) (xs++news)->((Value.slice a' (n+1) cap').ownBlock=v.ownBlock\/∃ g,(Value.slice a' (n+1) cap').ownBlock=some g/\w.heap.size<=g)->Below base w w'->(∀ b,b<w.heap.size->some b≠v.ownBlock->w'.heap[b]?=w.heap[b]?)->wpList Tryz.prog ops Q rest (a.put o.dst (.slice a' (n+1) cap')) w') :
  wpList Tryz.prog ops Q (o :: rest) a w:=by
 refine wpList_plain hgd fun K hKK=>?_
 obtain⟨v',w',hrun,r1,r2,r3,r4⟩:=xaF T o.type e z sz bytes hT hI hzs hsz base n v xs hown Bb news hl hX h1 h63 hby hbase;obtain⟨a',cap',rfl,-⟩:=r1.form;unfold Oper.wp
 simp[execOp,hop,resolve,invoke,builtin,hs,hx,hrun,Result.andThen]
 exact hKK _ _ (hK a' cap' w' r1 r2 r3 r4)
theorem xac {w w':World}{B:Nat}{o:Obj}(h:w.heap[B]?=some o)(hb:Below w.heap.size w w'):w'.heap[B]?=some o:=by rw[hb.block _ (xaf h)];exact h
abbrev IV (x:QI):Value:=.agg #[.int .i64 x.op,.int .i64 x.a,.int .i64 x.b,.int .i64 x.c,.string x.name]
theorem xaE {n:Int}(h1:-9223372036854775808<=n)(h2:n<=9223372036854775807):IntKind.i64.wrap n=n:=by rw[IntKind.wrap_i64];omega
def xcg (h:List Int):List Value:=h.map fun x=>.int .i64 x
abbrev xiz (h:List Int):Obj:=.cells (xcg h).toArray 3 (0,0)
theorem xgV {w:World}{g:Nat}{h:List Int}(hg:w.heap[g]?=some (xiz h)){k:Nat}(hk:k<h.length):w.cell? ⟨g,k,none⟩=some (.int .i64 (h.getD k 0)):=by
 rw[qzB hg];simp[xcg,hk]
theorem xgL {w:World}{g:Nat}{h:List Int}(hg:w.heap[g]?=some (xiz h))(k:Nat):w.frozen? ⟨g,k,none⟩=false:=by unfold World.frozen?;simp[hg]
theorem xi3 {w:World}{g:Nat}{h:List Int}(hg:w.heap[g]?=some (xiz h))(k:Nat)(v:Int):(w.setCell ⟨g,k,none⟩ (.int .i64 v)).heap[g]?=some (xiz (h.set k v)):=by
 rw[xad hg];simp[xcg,List.map_set]
abbrev FV (f:Int × Int):Value:=.agg #[.int .i64 f.1,.int .i64 f.2]
theorem xkC (n:Nat)(hb:n*8<=140737488351232)(w:World):(Instr.makeSlice 87 (.int .i64 (n:Int)) (.int .i64 (n:Int))).run Tryz.prog w=.ok (.slice (some ⟨w.heap.size,0,none⟩) n n) (w.alloc (xiz (List.replicate n 0))):=by
 obtain⟨i0,hi,hz0,hz1,hz2⟩:=xa3 xh7;have:=run_make (P:=Tryz.prog) w 87 3 i0 _ Tryz.underlying87 hi hz0 .i64 .i64 n n (by omega) (by omega) (by rw[hz2];omega) (by omega)
 rw[this,hz1]
 simp[madeCells,Value.cells,xiz,xcg]
 congr 2
 apply Array.ext
 ·simp
 ·intro i h1 h2
  simp[Nat.mod_one]
theorem xl4 {n j:Nat}(h:j<n):(List.replicate j (-1:Int)++List.replicate (n-j) 0).set j (-1)=List.replicate (j+1) (-1)++List.replicate (n-(j+1)) 0:=by
 apply List.ext_getElem?
 intro i;simp only[List.getElem?_set,List.getElem?_append,List.length_append,List.length_replicate,List.getElem?_replicate]
 by_cases h1:i=j
 ·subst h1
  simp
  omega
 ·by_cases h2:i<j
  ·simp[h2,show i<j+1 by omega,show ¬ j=i by omega]
  ·simp only[show ¬ j=i by omega,if_false,h2,show ¬ (i<j+1) by omega]
   by_cases h3:i<n
   ·rw[if_pos (by omega),if_pos (by omega)]
   ·rw[if_neg (by omega),if_neg (by omega)]
def xiY (w:World)(code:List QI)(e:Ending)(w':World):Prop:=
 Below w.heap.size w w'/\(((xaH code).2.1=0/\∃ g,e=.returned (.tuple #[.slice (some ⟨g,0,none⟩) code.length code.length,FV (0,0)])/\w'.heap[g]?=some (xiz (xaH code).1)/\w.heap.size<=g)\/
  ((xaH code).2.1≠0/\e=.returned (.tuple #[.slice none 0 0,FV (xaH code).2])))
def xdH (s:Int)(_:Nat)(x:QC):Int × Bool:=(IntKind.i64.wrap (s+x.slots),true)
def xa8 (xs:List QC)(c:Int):Int:=upE xdH xs (xs.length+1) c 0
theorem xgU {xs:List QC}(ho:xbL xs)(hb:xs.length*56<=140737488351232):∀ (n:Nat) (c s:Int),0<=s->s+6*n<=9000000000000000000->upE xdH xs n c s=upE xd6 xs n c s
 | 0,c,s,h,_=>rfl
 | n+1,c,s,h,h2=>by
  unfold upE
  cases hx:xby xs c with
  | none=>rfl
  | some x=>
   obtain⟨k,rfl,hk⟩:=xbn hx;obtain⟨h3,h4⟩:=ho k x hk;have e:IntKind.i64.wrap (s+x.slots)=s+x.slots:=xaE (by omega) (by omega)
   simp only[xdH,xd6,if_true,e]
   exact xgU ho hb n x.super (s+x.slots) (by omega) (by omega)
theorem xeH {xs:List QC}(ho:xbL xs)(hb:xs.length*56<=140737488351232)(c:Int):xa8 xs c=xaP xs c:=xgU ho hb _ c 0 (by omega) (by omega)
def SlRW {P:Nat->Prop}(w0:World)(cv:Value)(xs:List QC)(j:Nat)(s:Int)(w':World):Prop:=
 Below w0.heap.size w0 w'/\xai P w' cv xs/\w'.heap[w0.heap.size+1]?=some (.cells #[.int .i64 s] 3 (0,0))/\w'.cell? ⟨w0.heap.size,0,none⟩=some cv
def inR (n low high:Int):Bool:=decide (low<=n/\n<=high)
def xmH (s:ByteArray):Bool:=s.toList.isEmpty
def rnB (x:QI):Bool:=if x.op=14 then xbf x.name else xmH x.name
def raE (S n:Int)(m:QM)(x:QI):Bool:=
 if x.op=2 then inR x.a 0 (m.args-1)
 else if x.op=3\/x.op=11 then inR x.a 0 (m.temps-1)
 else if x.op=4\/x.op=12 then inR x.a 0 (IntKind.i64.wrap (S-1))
 else if x.op=15\/x.op=16 then inR x.a 0 ((m.code.length:Int)-1)
 else if x.op=14 then inR x.a 0 4
 else if x.op=5 then inR x.a (-1073741824) 1073741824
 else if x.op=13 then decide (x.a=0) || inR x.a 4 (n-1)
 else decide (x.a=0)
def xgk (S n:Int)(m:QM)(x:QI):Int:=
 if inR x.op 1 17=false then 1 else if raE S n m x=false then 3 else if rnB x=false\/x.b≠0\/x.c≠0 then 2 else 0
def wmE (n c:Int)(m:QM):Int:=
 if inR c 0 (n-1)=false then 6 else if xbf m.name=false then 7 else if inR m.args 0 4=false\/inR m.temps 0 6=false then 3 else if m.prim≠0 then 1 else if inR m.code.length 1 60=false then 5 else 0
def xjw (f:QI->Int):Nat->List QI->Option (Int × Int)
 | _,[]=>none
 | k,x :: r=>if f x≠0 then some (f x,(k:Int)) else xjw f (k+1) r
theorem xln {f:QI->Int}:∀ {l:List QI} {k j:Nat} {x:QI},l[j]?=some x->f x≠0->(∀ (i:Nat) y,i<j->l[i]?=some y->f y=0)->xjw f k l=some (f x,((k+j:Nat):Int))
 | [],k,j,x,h,_,_=>by simp at h
 | z :: r,k,0,x,h,hx,_=>by
  simp at h
  subst h
  simp[xjw,hx]
 | z :: r,k,j+1,x,h,hx,hp=>by
  have h0:f z=0:=hp 0 z (by omega) rfl
  unfold xjw;rw[if_neg (by simp[h0]),xln (l:=r) (k:=k+1) (j:=j) (by simpa using h) hx fun i y hi hy=>hp (i+1) y (by omega) (by simpa using hy)]
  congr 3
  omega
theorem xhn {f:QI->Int}:∀ {l:List QI} {k:Nat},(∀ (i:Nat) y,l[i]?=some y->f y=0)->xjw f k l=none
 | [],k,_=>rfl
 | z :: r,k,hp=>by
  unfold xjw;rw[if_neg (by simp[hp 0 z rfl])]
  exact xhn fun i y hy=>hp (i+1) y (by simpa using hy)
theorem xgm {f:QI->Int}:∀ {l:List QI} {k:Nat},xjw f k l=none->∀ x∈l,f x=0
 | [],k,_,x,hx=>by simp at hx
 | z :: r,k,h,x,hx=>by
  unfold xjw at h
  by_cases h0:f z=0
  ·rw[if_neg (by simp[h0])] at h
   rcases List.mem_cons.1 hx with rfl | hx
   ·exact h0
   ·exact xgm h x hx
  ·rw[if_pos h0] at h;cases h
def xdY (S n c:Int)(m:QM):Int × Int:=
 if wmE n c m≠0 then (wmE n c m,0) else match xjw (xgk S n m) 0 m.code with
  | some f=>f
  | none=>(xaH m.code).2
theorem xdW {S n:Int}{m:QM}{x:QI}(h:xgk S n m x=0):x.op=14->0<=x.a/\x.a<=4:=fun h14=>by
 unfold xgk at h
 split at h
 ·cases h
 ·split at h
  ·cases h
  ·rename_i hra
   simp[raE,h14,inR] at hra
   exact hra
theorem xiV {n c:Int}{m:QM}(h:wmE n c m=0):(0<=m.args/\m.args<=4)/\(0<=m.temps/\m.temps<=6)/\1<=m.code.length/\m.code.length<=60/\0<=c/\c<=n-1:=by
 unfold wmE at h
 (repeat' split at h)<;>first | (exfalso;omega) | skip
 rename_i h1 h2 h3 h4 h5
 simp[inR] at h1 h3 h5
 omega
theorem xoX {w:World}{B:Nat}{x y:Value}{t:TypeId}(h:w.heap[B]?=some (.cells #[x,y] t (0,0))):(∀ q,w.cell? ⟨B,q,none⟩=(#[x,y]:Array Value)[q]?)/\(∀ o,w.frozen? ⟨B,o,none⟩=false):=
 ⟨fun q=>by rw[qzB h],fun o=>by unfold World.frozen?;simp[h]⟩
theorem xjo {w:World}{B:Nat}{x y:Value}{t:TypeId}(h:w.heap[B]?=some (.cells #[x,y] t (0,0)))(u v:Value)(z:Obj):(((w.setCell ⟨B,0,none⟩ u).setCell ⟨B,1,none⟩ v).alloc z).cell? ⟨B,0,none⟩=some u/\(((w.setCell ⟨B,0,none⟩ u).setCell ⟨B,1,none⟩ v).alloc z).cell? ⟨B,1,none⟩=some v:=by
 have h2:((w.setCell ⟨B,0,none⟩ u).setCell ⟨B,1,none⟩ v).heap[B]?=some (.cells #[u,v] t (0,0)):=by rw[xad (xad h _) _];rfl
 have h3:=xac h2 (xaj _ z)
 exact⟨by rw[qzB h3];rfl,by rw[qzB h3];rfl⟩
theorem xgJ {code:List QI}:∀ (g:Nat) (h:List Int) (q:List (Int × Int)),(xhD code g h q).2.1=0->(xhD code g h q).2=(0,0)
 | 0,h,q,_=>rfl
 | g+1,h,[],_=>rfl
 | g+1,h,p :: q,he=>by
  unfold xhD at he ⊢
  cases hst:xcM code h p with
  | inl f=>rw[hst] at he;exact absurd he (xeT hst)
  | inr r=>
   obtain⟨h',new⟩:=r;rw[hst] at he
   exact xgJ g h' (q++new) he
def xbe {α:Type}(f:Nat->α->Int):Nat->List α->Int
 | _,[]=>0
 | k,x :: r=>if f k x≠0 then f k x else xbe f (k+1) r
theorem xc4 {α:Type}{f:Nat->α->Int}:∀ {l:List α} {k j:Nat} {x:α},l[j]?=some x->f (k+j) x≠0->(∀ i y,i<j->l[i]?=some y->f (k+i) y=0)->xbe f k l=f (k+j) x
 | a :: r,k,0,x,hx,h,_=>by
  simp at hx;subst hx
  simp only[Nat.add_zero] at h ⊢;unfold xbe;rw[if_pos h]
 | a :: r,k,j+1,x,hx,h,hn=>by
  have h0:=hn 0 a (by omega) rfl
  simp only[Nat.add_zero] at h0;unfold xbe;rw[if_neg (by simp[h0]),xc4 (k:=k+1) (j:=j) (x:=x) (by simpa using hx) (by rw[show k+1+j=k+(j+1) by omega];exact h) fun i y hi hy=>by rw[show k+1+i=k+(i+1) by omega];exact hn (i+1) y (by omega) (by simpa using hy)]
  rw[show k+1+j=k+(j+1) by omega]
theorem xdm {α:Type}{f:Nat->α->Int}{l:List α}{j:Nat}{x:α}(hx:l[j]?=some x)(h:f j x≠0)(hn:∀ i y,i<j->l[i]?=some y->f i y=0):xbe f 0 l=f j x:=by
 have:=xc4 (f:=f) (k:=0) (j:=j) hx (by simpa using h) (fun i y hi hy=>by simpa using hn i y hi hy)
 simpa using this
theorem xdc {α:Type}{f:Nat->α->Int}:∀ {l:List α} {k:Nat},(∀ i y,l[i]?=some y->f (k+i) y=0)->xbe f k l=0
 | [],_,_=>rfl
 | a :: r,k,h=>by
  have h0:=h 0 a rfl;simp only[Nat.add_zero] at h0;unfold xbe;rw[if_neg (by simp[h0])]
  exact xdc fun i y hy=>by rw[show k+1+i=k+(i+1) by omega];exact h (i+1) y (by simpa using hy)
theorem xb1 {α:Type}{f:Nat->α->Int}{l:List α}(h:∀ i y,l[i]?=some y->f i y=0):xbe f 0 l=0:=xdc fun i y hy=>by simpa using h i y hy
theorem xdn {α:Type}{f:Nat->α->Int}:∀ {l:List α} {k:Nat},xbe f k l=0->∀ i y,l[i]?=some y->f (k+i) y=0
 | a :: r,k,h,i,y,hy=>by
  unfold xbe at h
  split at h
  ·rename_i h1;exact absurd h h1
  ·rename_i h1
   cases i with
   | zero=>simp at hy;subst hy;simpa using h1
   | succ i=>rw[show k+(i+1)=k+1+i by omega];exact xdn h i y (by simpa using hy)
theorem xbH {α:Type}{f:Nat->α->Int}{l:List α}(h:xbe f 0 l=0):∀ i y,l[i]?=some y->f i y=0:=fun i y hy=>by
 have:=xdn h i y hy
 simpa using this
def xbP (n c:Int):Bool:=decide (c=0\/4<=c/\c<n)
def xlu (xs:List QC)(k:Nat)(name:ByteArray):Bool:=(xs.take k).any fun d=>eqN d.name name
theorem xlV {xs:List QC}{k i:Nat}{name:ByteArray}{d:QC}(hi:i<k)(hd:xs[i]?=some d)(h:eqN d.name name=true):xlu xs k name=true:=by
 unfold xlu;rw[List.any_eq_true]
 exact⟨d,List.mem_of_getElem? (i:=i) (by rw[List.getElem?_take];simp[hi,hd]),h⟩
theorem xn0 {xs:List QC}{k:Nat}{name:ByteArray}(h:∀ i d,i<k->xs[i]?=some d->eqN d.name name=false):xlu xs k name=false:=by
 unfold xlu;rw[List.any_eq_false];intro d hd;obtain⟨i,hi⟩:=List.getElem?_of_mem hd;rw[List.getElem?_take] at hi
 split at hi
 ·rename_i hk;have:=h i d hk hi
  simp[this]
 ·cases hi
def rcE (xs:List QC)(k:Nat)(x:QC):Int:=
 if xbf x.name=false then 7 else
 match xgB[k]? with
 | some y=>if eqN x.name y.name=false then 7 else if xlu xs k x.name=true then 7 else if x.super≠y.super then 3 else if x.slots<0\/0<x.slots then 3 else 0
 | none=>if xlu xs k x.name=true then 7 else if xbP k x.super=false then 3 else if x.slots<0\/6<x.slots then 3 else 0
def xgz (k:Nat)(m:QM):Bool:=xfw.any fun p=>decide (k=3) && eqN p.name m.name && decide (p.prim=m.prim) && decide (m.args=1) && decide (m.temps=0) && decide (m.code.length=0)
def xdQ (ms:List QM)(i:Nat)(m:QM):Bool:=match i with
 | 0=>true
 | i+1=>match ms[i]? with
  | some p=>ltN p.name m.name
  | none=>true
def rmE (X:QW)(k:Nat)(ms:List QM)(i:Nat)(m:QM):Int:=
 if xdQ ms i m=false then 7 else if xgz k m=true then 0 else (xdY (xa8 X.cz k) X.cz.length k m).1
def rkE (X:QW)(k:Nat)(x:QC):Int:=if 6<xa8 X.cz k then 3 else if 8<x.mz.length then 5 else xbe (rmE X k x.mz) 0 x.mz
def xch (k n h:Int):Int:=
 if k<0\/4<k then 1
 else if k<3 then (if n=0 then 0 else 2)
 else if k=3 then (if n < -1073741824\/1073741824<n then 3 else 0)
 else (if n<0\/h<=n then 6 else 0)
def xas (h:Int)(v:QV):Int:=xch v.k v.n h
def roE (X:QW)(_:Nat)(o:QO):Int:=
 if xbP X.cz.length o.cls=false\/(o.slots.length:Int)≠xa8 X.cz o.cls then 8 else xbe (fun _ v=>xas X.heap.length v) 0 o.slots
def xaJ (X:QW):Int:=
 if X.cz.length<4\/12<X.cz.length\/60<X.heap.length then 5
 else if X.ez<0\/1073741824<X.ez then 3
 else if xbe (rcE X.cz) 0 X.cz≠0 then xbe (rcE X.cz) 0 X.cz
 else if xbe (rkE X) 0 X.cz≠0 then xbe (rkE X) 0 X.cz
 else xbe (roE X) 0 X.heap
structure SizeOk (X:QW):Prop where
 few:4<=X.cz.length
 many:X.cz.length<=12
 heap:X.heap.length<=60
 ep0:0<=X.ez
 ep1:X.ez<=1073741824
def ClsOk (X:QW)(j:Nat):Prop:=∀ i x,i<j->X.cz[i]?=some x->rcE X.cz i x=0
def xdd (X:QW)(j:Nat):Prop:=∀ i x,i<j->X.cz[i]?=some x->rkE X i x=0
def xhb (X:QW)(j:Nat):Prop:=∀ i x,i<j->X.heap[i]?=some x->roE X i x=0
theorem xee {X:QW}(h:X.cz.length<4\/12<X.cz.length\/60<X.heap.length):xaJ X=5:=by unfold xaJ;rw[if_pos h]
theorem xe9 {X:QW}(h:¬ (X.cz.length<4\/12<X.cz.length\/60<X.heap.length))(h2:X.ez<0\/1073741824<X.ez):xaJ X=3:=by unfold xaJ;rw[if_neg h,if_pos h2]
theorem xc9 {X:QW}(h:SizeOk X):xaJ X=if xbe (rcE X.cz) 0 X.cz≠0 then xbe (rcE X.cz) 0 X.cz else if xbe (rkE X) 0 X.cz≠0 then xbe (rkE X) 0 X.cz else xbe (roE X) 0 X.heap:=by
 obtain⟨h1,h2,h3,h4,h5⟩:=h;unfold xaJ;rw[if_neg (by omega),if_neg (by omega)]
theorem xgu {X:QW}(h:SizeOk X){j:Nat}{x:QC}(hx:X.cz[j]?=some x)(hj:ClsOk X j){v:Int}(e:rcE X.cz j x=v)(hv:v≠0):xaJ X=v:=by
 subst e;have:=xdm hx hv hj;rw[xc9 h,if_pos (by rw[this];exact hv),this]
theorem xeZ {X:QW}(h:ClsOk X X.cz.length):xbe (rcE X.cz) 0 X.cz=0:=xb1 fun i y hy=>h i y (xae hy) hy
theorem xkk {X:QW}(h:SizeOk X)(h1:ClsOk X X.cz.length){j:Nat}{x:QC}(hx:X.cz[j]?=some x)(hj:xdd X j){v:Int}(e:rkE X j x=v)(hv:v≠0):xaJ X=v:=by
 subst e;have:=xdm hx hv hj;rw[xc9 h,if_neg (by rw[xeZ h1];simp),if_pos (by rw[this];exact hv),this]
theorem xfJ {X:QW}(h:xdd X X.cz.length):xbe (rkE X) 0 X.cz=0:=xb1 fun i y hy=>h i y (xae hy) hy
theorem xm0 {X:QW}(h:SizeOk X)(h1:ClsOk X X.cz.length){j:Nat}{x:QC}(hx:X.cz[j]?=some x)(hj:xdd X j)(s:¬ 6<xa8 X.cz j)(n:¬ 8<x.mz.length){i:Nat}{m:QM}(hm:x.mz[i]?=some m)(hi:∀ k y,k<i->x.mz[k]?=some y->rmE X j x.mz k y=0){v:Int}(e:rmE X j x.mz i m=v)(hv:v≠0):xaJ X=v:=by
 refine xkk h h1 hx hj ?_ hv;subst e;unfold rkE;rw[if_neg s,if_neg n,xdm hm hv hi]
theorem xkg {X:QW}(h:SizeOk X)(h1:ClsOk X X.cz.length)(h2:xdd X X.cz.length){j:Nat}{x:QO}(hx:X.heap[j]?=some x)(hj:xhb X j){v:Int}(e:roE X j x=v)(hv:v≠0):xaJ X=v:=by
 subst e;have:=xdm hx hv hj;rw[xc9 h,if_neg (by rw[xeZ h1];simp),if_neg (by rw[xfJ h2];simp),this]
theorem xmW {X:QW}(h:SizeOk X)(h1:ClsOk X X.cz.length)(h2:xdd X X.cz.length){j:Nat}{x:QO}(hx:X.heap[j]?=some x)(hj:xhb X j)(f:¬ (xbP X.cz.length x.cls=false\/(x.slots.length:Int)≠xa8 X.cz x.cls)){i:Nat}{y:QV}(hy:x.slots[i]?=some y)(hi:∀ k z,k<i->x.slots[k]?=some z->xas X.heap.length z=0)(hv:xas X.heap.length y≠0):xaJ X=xas X.heap.length y:=by
 refine xkg h h1 h2 hx hj ?_ hv;unfold roE;rw[if_neg f]
 exact xdm (f:=fun _ v=>xas X.heap.length v) hy hv hi
theorem xix {X:QW}(h:SizeOk X)(h1:ClsOk X X.cz.length)(h2:xdd X X.cz.length)(h3:xhb X X.heap.length):xaJ X=0:=by
 rw[xc9 h,if_neg (by rw[xeZ h1];simp),if_neg (by rw[xfJ h2];simp)]
 exact xb1 fun i y hy=>h3 i y (xae hy) hy
theorem xbE {X:QW}(h:xaJ X=0):SizeOk X/\ClsOk X X.cz.length/\xdd X X.cz.length/\xhb X X.heap.length:=by
 unfold xaJ at h
 split at h
 ·cases h
 rename_i a1
 split at h
 ·cases h
 rename_i a2
 split at h
 ·rename_i a3;exact absurd h a3
 rename_i a3
 split at h
 ·rename_i a4;exact absurd h a4
 rename_i a4;have b3:=xbH (Decidable.of_not_not a3);have b4:=xbH (Decidable.of_not_not a4);have b5:=xbH h
 exact⟨⟨by omega,by omega,by omega,by omega,by omega⟩,fun i x _ hx=>b3 i x hx,fun i x _ hx=>b4 i x hx,fun i x _ hx=>b5 i x hx⟩
theorem xkN {xs:List QC}{k:Nat}{x:QC}(h:rcE xs k x=0):0<=x.slots/\x.slots<=6:=by
 unfold rcE at h
 split at h
 ·cases h
 split at h<;>(repeat' (split at h))<;>first | (cases h;done) | omega
theorem ClsOk.slots {X:QW}(h:ClsOk X X.cz.length):xbL X.cz:=fun i x hx=>xkN (h i x (xae hx) hx)
abbrev xaU:QV:=⟨0,0⟩
def xaM (l:List QV)(n:Int):QV:=if n<0 then xaU else l[n.toNat]?.getD xaU
def xaV (l:List QV)(n:Int)(v:QV):List QV:=if n<0 then l else l.set n.toNat v
def xaW (l:List QV)(n:Int):QV:=xaM l ((l.length:Int)-1-n)
def xaQ (n:Int):List QV:=List.replicate (min (max n 0) 40).toNat xaU
def xbu (l:List QV)(n:Int):Nat:=l.length-(max n 0).toNat
def xdt (h:List QO)(v:QV):Option QO:=if v.k=4/\0<=v.n then h[v.n.toNat]? else none
def xar (h:List QO)(v:QV):Int:=if v.k=0 then 1 else if v.k=1\/v.k=2 then 2 else if v.k=3 then 3 else ((xdt h v).map QO.cls).getD 0
def xcV (h:List QO)(v:QV)(n:Int):QV:=((xdt h v).map fun o=>xaM o.slots n).getD xaU
def xaR (h:List QO)(v:QV)(n:Int)(x:QV):List QO:=match xdt h v with
 | none=>h
 | some o=>h.set v.n.toNat ⟨o.cls,xaV o.slots n x⟩
def xbA (p:Int)(a b:QV):QV × Int:=
 if a.k≠3\/b.k≠3 then (xaU,12)
 else if p=1 then (⟨3,(a.n+b.n).tmod 1073741825⟩,0)
 else if p=2 then (⟨3,(a.n-b.n).tmod 1073741825⟩,0)
 else if p=3 then (⟨3,(a.n*b.n).tmod 1073741825⟩,0)
 else if p=4 then (⟨if a.n<b.n then 2 else 1,0⟩,0)
 else if p=5 then (⟨if a.n=b.n then 2 else 1,0⟩,0)
 else (xaU,1)
structure Mc (σ:Type) where
 heap:List QO
 sz_:Int
 turns:Int
 st:σ
structure Fr where
 cls:Int
 meth:QM
 self:QV
 args:List QV
 temps:List QV
 stack:List QV
 code:List QI
 pc:Int
 fast:Bool
structure Env (σ:Type) where
 cz:List QC
 fuel:Int
 look:σ->QS->Int->ByteArray->σ × (Int × Int)
 quick:Int->Int->Option (List QI × Int)
section
variable {σ:Type}
abbrev Ent (σ:Type):=Mc σ->Int->Int->QV->List QV->Mc σ × QV × Int
def Fr.push (f:Fr)(v:QV):Fr:={ f with stack:=f.stack++[v] }
def Fr.pop (f:Fr):Fr:={ f with stack:=f.stack.dropLast }
def Fr.top (f:Fr):QV:=xaW f.stack 0
def Fr.site (f:Fr)(at':Int)(x:QI):QS:=⟨f.cls,f.meth.name,if f.fast then x.c else at'⟩
def Fr.leave (f:Fr)(at':Int):Fr:={ f with code:=f.meth.code,temps:=(xaQ f.meth.temps).zipIdx.map (fun p=>(f.temps[p.2]?).getD xaU),pc:=at',fast:=false }
def xaA (h:List QO)(f:Fr)(x:QI):Option QV:=
 if x.op=1 then some f.self else if x.op=2 then some (xaM f.args x.a) else if x.op=3 then some (xaM f.temps x.a) else if x.op=4 then some (xcV h f.self x.a)
 else if x.op=5 then some ⟨3,x.a⟩ else if x.op=6 then some xaU else if x.op=7 then some ⟨1,0⟩ else if x.op=8 then some ⟨2,0⟩ else none
def xaX (m:Mc σ)(f:Fr)(at' tg:Int):Mc σ × Fr × Int:=
 let m':Mc σ:=if tg<=at' then { m with turns:=m.turns+1 } else m
 if 300<m'.turns then (m',f,16) else (m',{ f with pc:=tg },0)
def xay (E:Env σ)(d:Nat)(m:Mc σ):Mc σ × Int:=if E.fuel<=m.sz_ then (m,13) else if d=0 then (m,14) else ({ m with sz_:=m.sz_+1 },0)
def xcm (ent:Ent σ)(E:Env σ)(m:Mc σ)(f:Fr)(at':Int)(x:QI):Mc σ × Fr × Int:=
 let k:=xbu f.stack x.a
 let args:=f.stack.drop k
 let self:=xaW (f.stack.take k) 0
 let l:=E.look m.st (f.site at' x) (xar m.heap self) x.name
 let r:=ent { m with st:=l.1 } l.2.1 l.2.2 self args
 if r.2.2≠0 then (r.1,f,r.2.2) else (r.1,{ f with stack:=(f.stack.take k).dropLast++[r.2.1] },0)
def xbQ (E:Env σ)(m:Mc σ)(f:Fr)(c:Int):Mc σ × Fr × Int:=
 if 60<=m.heap.length\/2147483647<xaP E.cz c then (m,f,15)
 else ({ m with heap:=m.heap++[⟨c,List.replicate (xaP E.cz c).toNat xaU⟩] },f.push ⟨4,m.heap.length⟩,0)
def xbr (m:Mc σ)(f:Fr)(at' tg:Int):Mc σ × Fr × Int:=if f.top.k=2 then (m,f.pop,0) else if f.top.k=1 then xaX m f.pop at' tg else (m,f,11)
def xcl (E:Env σ)(d:Nat)(m:Mc σ)(f:Fr)(x:QI):Mc σ × Fr × Int:=
 if f.fast=false then (m,f,1)
 else if x.op=18 then (m,if xar m.heap (xaW f.stack x.b)=x.a then f else f.leave x.c,0)
 else if x.op=19 then (m,f.push (xcV m.heap (xaM f.temps x.a) x.b),0)
 else if x.op=20 then ({ m with heap:=xaR m.heap (xaM f.temps x.a) x.b f.top },f.pop,0)
 else if x.op=21 then ((xay E d m).1,f,(xay E d m).2)
 else (m,f,1)
def xan (ent:Ent σ)(E:Env σ)(d:Nat)(m:Mc σ)(f:Fr)(at':Int)(x:QI):Mc σ × Fr × Int:=
 match xaA m.heap f x with
 | some v=>(m,f.push v,0)
 | none=>
  if x.op=9 then (m,f.pop,0)
  else if x.op=10 then (m,f.push f.top,0)
  else if x.op=11 then (m,{ f.pop with temps:=xaV f.temps x.a f.top },0)
  else if x.op=12 then ({ m with heap:=xaR m.heap f.self x.a f.top },f.pop,0)
  else if x.op=13 then xbQ E m f x.a
  else if x.op=14 then xcm ent E m f at' x
  else if x.op=15 then xaX m f at' x.a
  else if x.op=16 then xbr m f at' x.a
  else xcl E d m f x
def xcL (ent:Ent σ)(E:Env σ)(d:Nat):Nat->Mc σ->Fr->Mc σ × QV × Int
 | 0,m,_=>(m,xaU,9)
 | g+1,m,f=>match (if f.pc<0 then none else f.code[f.pc.toNat]?) with
  | none=>(m,xaU,9)
  | some x=>
   if x.op=17 then (m,f.top,0)
   else
    let r:=xan ent E d m { f with pc:=f.pc+1 } f.pc x
    if r.2.2≠0 then (r.1,xaU,r.2.2) else xcL ent E d g r.1 r.2.1
def xaO (xs:List QC)(c n:Int):Option QM:=(xby xs c).bind fun x=>if 0<=n then x.mz[n.toNat]? else none
def xaG (E:Env σ)(c n:Int)(mt:QM)(self:QV)(args:List QV):Fr:=match E.quick c n with
 | none=>⟨c,mt,self,args,xaQ mt.temps,[],mt.code,0,false⟩
 | some q=>⟨c,mt,self,args,xaQ q.2,[],q.1,0,true⟩
def xeQ (f:Fr):Nat:=700*(f.code.length+f.meth.code.length+1)
def xbj (E:Env σ)(d:Nat)(body:Mc σ->Fr->Mc σ × QV × Int):Ent σ:=fun m c n self args=>match xaO E.cz c n with
 | none=>(m,xaU,10)
 | some mt=>
  if mt.args≠args.length then (m,xaU,8)
  else if mt.prim≠0 then (if E.fuel<=m.sz_ then (m,xaU,13) else ({ m with sz_:=m.sz_+1 },xbA mt.prim self (xaM args 0)))
  else if (xay E d m).2≠0 then (m,xaU,(xay E d m).2) else body (xay E d m).1 (xaG E c n mt self args)
def xa1 (E:Env σ):Nat->Ent σ
 | 0=>xbj E 0 fun m _=>(m,xaU,14)
 | d+1=>xbj E (d+1) fun m f=>xcL (xa1 E d) E d (xeQ f) m f
theorem xeh (m:Mc σ)(f:Fr)(a b:Int):(xaX m f a b).1.sz_=m.sz_:=by
 unfold xaX
 by_cases h:b<=a
 ·simp only[h,if_true];split<;>rfl
 ·simp only[h,if_false];split<;>rfl
theorem xf6 (E:Env σ)(m:Mc σ)(f:Fr)(c:Int):(xbQ E m f c).1.sz_=m.sz_:=by
 unfold xbQ;split<;>rfl
theorem xfI (m:Mc σ)(f:Fr)(a b:Int):(xbr m f a b).1.sz_=m.sz_:=by
 unfold xbr
 split
 ·rfl
 ·split
  ·exact xeh _ _ _ _
  ·rfl
end
end Go.Proofs.YtapbeiccodnniaaGreat
