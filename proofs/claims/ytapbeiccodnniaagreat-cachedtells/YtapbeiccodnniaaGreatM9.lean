/- A part. -/
import Derived.Test.YtapbeiccodnniaaGreatM8
namespace Go.Proofs.YtapbeiccodnniaaGreat
open Go.ChangeShapes Go.WideShapes Go.ChangeAt Go.RowKit
set_option linter.unusedSimpArgs false
set_option linter.unusedVariables false
set_option maxHeartbeats 8000000
set_option maxRecDepth 8000
theorem xp1 {P Q:Nat->Prop}(xs:List QE)(va vb:Value)(w:World)(ha:xbk P w va xs)(hb:xbk Q w vb xs):Calls Tryz.prog 10 #[va,vb] w fun e w'=>e=.returned (.bool true)/\Below w.heap.size w w':=by
 obtain⟨ad,cap,rfl,hl,hcap,-,hrow⟩:=ha;obtain⟨ad',cap',rfl,hl',hcap',-,hrow'⟩:=hb;unfold maxLen at hcap hcap';go_enter Tryz.func10,Tryz.ntmps10;go_wp2
 go_loopg [13] xs.length (fun g c wr=>∃ j:Nat,j+g=xs.length/\c=.int .i64 j/\Below w.heap.size w wr)
 case atStart=>exact⟨0,by omega,rfl,qzL _ _⟩
 case round=>
  obtain⟨j,hj,rfl,hbel⟩:=hrel
  by_cases hlt:j<xs.length
  ·obtain⟨b,o,rfl,-,q0,q1,q2,q3,q4,lv,q5,ql⟩:=hrow j xs[j] (by simp[hlt])
   obtain⟨b',o',rfl,-,k0,k1,k2,k3,k4,lv',k5,kl⟩:=hrow' j xs[j] (by simp[hlt])
   generalize xs[j]=x at *;simp only[Nat.add_zero] at q0 k0;replace q0:=qzA hbel q0;replace q1:=qzA hbel q1;replace q2:=qzA hbel q2;replace q3:=qzA hbel q3;replace q4:=qzA hbel q4;replace q5:=qzA hbel q5;replace ql:=ql.later xbq hbel;replace k0:=qzA hbel k0;replace k1:=qzA hbel k1;replace k2:=qzA hbel k2;replace k3:=qzA hbel k3;replace k4:=qzA hbel k4;replace k5:=qzA hbel k5;replace kl:=kl.later xbq hbel;have he:=fun w=>neqS x.site x.site w
   rw[(xcf x.site x.site).2 rfl] at he;have hj1:(j:Int)<(xs.length:Int):=by omega
   have hj0:(0:Int)<=(j:Int):=by omega
   clear hrow hrow';go_wp2
   go_quiet (first | (go_at_call 30;refine Calls.quiet_of (xpA x.lz _ _ _ (ql.later xbq (below_drewN (qzL _ _) _)) (kl.later xbq (below_drewN (qzL _ _) _)))))
   go_wp2
   go_roundg (gk-1)
   case measure=>omega
   case rel=>exact⟨j+1,by omega,by go_num,xah hbel (below_drewN (qzL _ _) _)⟩
  ·go_wp2
   go_ret
   exact⟨rfl,hbel⟩
theorem xqG (x:QE)(r:List QE)(s:QS)(ep c:Int):xft (x :: r) s ep c=if eqS x.site s then (if x.ez=ep then xen x.lz c else -1) else xft r s ep c:=by
 unfold xft
 by_cases h:eqS x.site s=true<;>simp[h]
theorem xqs (y:QL)(r:List QL)(c:Int):xen (y :: r) c=if y.cls=c then y.found else xen r c:=by
 unfold xen
 by_cases h:y.cls=c
 ·simp[h]
 ·have hb:(y.cls == c)=false:=by simpa using h
  simp[h,hb]
theorem xqH {α:Type}{xs:List α}{j:Nat}{x:α}(h:xs[j]?=some x):xs.drop j=x :: xs.drop (j+1):=by
 have hj:=xae h;rw[List.drop_eq_getElem_cons hj];rw[List.getElem?_eq_getElem hj] at h
 cases h
 rfl
theorem xqZ {P:Nat->Prop}(xs:List QE)(v:Value)(s:QS)(ep c:Int)(w:World)(hh:xbk P w v xs):Calls Tryz.prog 26 #[v,SV s,.int .i64 ep,.int .i64 c] w fun e w'=>e=.returned (.int .i64 (xft xs s ep c))/\Below w.heap.size w w':=by
 obtain⟨ad,cap,rfl,hl,hcap,-,hrow⟩:=hh;unfold maxLen at hcap;have hs0:=xeS w s 67;have hb0:=xaj w (.cells #[.int .i64 s.cls,.string s.name,.int .i64 s.at'] 67);go_enter Tryz.func26,Tryz.ntmps26;go_wp2
 go_loopg [15] xs.length (fun g i wr=>∃ j:Nat,j+g=xs.length/\i=.int .i64 j/\xft xs s ep c=xft (xs.drop j) s ep c/\Below w.heap.size w wr/\SiteAt wr w.heap.size s)
 case atStart=>exact⟨0,by omega,rfl,rfl,hb0,hs0⟩
 case round=>
  obtain⟨j,hj,rfl,hE,hbel,hsj⟩:=hrel;have HE:Hid (xft xs s ep c=xft (xs.drop j) s ep c):=hE;clear hs0 hb0 hE
  by_cases hlt:j<xs.length
  ·obtain⟨b,o,rfl,-,q0,q1,q2,q3,q4,lv,q5,ql⟩:=hrow j xs[j] (by simp[hlt])
   have hxj:Hid (xs[j]?=some xs[j]):=by show _=_;simp[hlt]
   generalize xs[j]=x at *;have HD:Hid (xft (xs.drop j) s ep c=if eqS x.site s then (if x.ez=ep then xen x.lz c else -1) else xft (xs.drop (j+1)) s ep c):=by show _=_;rw[xqH hxj.out,xqG]
   simp only[Nat.add_zero] at q0;have v0:=qzA hbel q0;have v1:=qzA hbel q1;have v2:=qzA hbel q2;have v3:=qzA hbel q3;have v4:=qzA hbel q4;have v5:=qzA hbel q5;have hsl:=ql.later xbq hbel;clear q0 q1 q2 q3 q4 q5 ql hrow;obtain⟨ad2,cap2,rfl,hl2,hcap2,-,-⟩:=id hsl;unfold maxLen at hcap2;obtain⟨s0,s1,s2⟩:=id hsj;have s0':=fun y=>qzA (xaj wr y) s0
   have s1':=fun y=>qzA (xaj wr y) s1
   have s2':=fun y=>qzA (xaj wr y) s2
   have he:=fun w=>xrt x.site s w
   clear s0 s1 s2;have hj1:(j:Int)<(xs.length:Int):=by omega
   have hj0:(0:Int)<=(j:Int):=by omega
   have hbx:=xaj wr (Obj.cells #[Value.int .i64 x.site.cls,Value.string x.site.name,Value.int .i64 x.site.at',Value.int .i64 x.ez,Value.bool x.many,Value.slice ad2 x.lz.length cap2] 70);have hbxE:=xgx wr x (Value.slice ad2 x.lz.length cap2) 70;have hlx:=hsl.later xbq hbx;have hbx':=xah hbel hbx
   by_cases hp:eqS x.site s=true
   ·have HG:Hid (xft xs s ep c=if x.ez=ep then xen x.lz c else -1):=by show _=_;rw[HE.out,HD.out,if_pos hp]
    rw[hp] at he;clear hp HE HD;go_wp2;generalize (wr.alloc (Obj.cells #[Value.int .i64 x.site.cls,Value.string x.site.name,Value.int .i64 x.site.at',Value.int .i64 x.ez,Value.bool x.many,Value.slice ad2 x.lz.length cap2] 70))=W1 at *;clear hbx he s0' s1' s2' v0 v1 v2 v3 v4 v5 hbel hsj hsl;generalize wr.heap.size=TB at *
    go_loopg [26] x.lz.length (fun g i ws=>∃ q:Nat,q+g=x.lz.length/\i=.int .i64 q/\(x.ez=ep->xen x.lz c=xen (x.lz.drop q) c)/\Below w.heap.size w ws/\BoxE ws TB x (.slice ad2 x.lz.length cap2)/\xbI P ws (.slice ad2 x.lz.length cap2) x.lz)
    case atStart=>exact⟨0,by omega,rfl,fun _=>rfl,hbx',hbxE,hlx⟩
    case round=>
     obtain⟨q,hq,rfl,hL,hbq,hbq2,hlq⟩:=hrel;have HL:Hid (x.ez=ep->xen x.lz c=xen (x.lz.drop q) c):=hL;clear hbx' hlx hL hbxE
     by_cases hltq:q<x.lz.length
     ·obtain⟨ad3,cap3,e3,-,-,-,hrow3⟩:=id hlq;simp only[Value.slice.injEq] at e3;obtain⟨rfl,-,-⟩:=e3;obtain⟨b3,o3,rfl,-,y0,y1⟩:=hrow3 q x.lz[q] (by simp[hltq])
      have hyq:Hid (x.lz[q]?=some x.lz[q]):=by show _=_;simp[hltq]
      generalize x.lz[q]=y at *;simp only[Nat.add_zero] at y0;have HD:Hid (xen (x.lz.drop q) c=if y.cls=c then y.found else xen (x.lz.drop (q+1)) c):=by show _=_;rw[xqH hyq.out,xqs]
      have hq1:(q:Int)<(x.lz.length:Int):=by omega
      have hq0:(0:Int)<=(q:Int):=by omega
      have hby:=xaj wr (Obj.cells #[Value.int .i64 y.cls,Value.int .i64 y.found] 72);obtain⟨c0,c1,c2,c3,c4,c5⟩:=hbq2.later hby;clear hrow3
      by_cases hA:x.ez=ep
      ·have hdA:(x.ez == ep)=true:=by simpa using hA
       have HA:Hid (x.ez=ep):=hA;clear hA
       by_cases hB:y.cls=c
       ·have hdB:(y.cls == c)=true:=by simpa using hB
        have HR:Hid (xft xs s ep c=y.found):=by show _=_;rw[HG.out,if_pos HA.out,HL.out HA.out,HD.out,if_pos hB]
        clear hB;go_wp2
        go_ret
        exact⟨xak HR.out.symm,xah hbq hby⟩
       ·have hdB:(y.cls == c)=false:=by simpa using hB
        have HR:Hid (xen (x.lz.drop q) c=xen (x.lz.drop (q+1)) c):=by show _=_;rw[HD.out,if_neg hB]
        go_wp2
        go_roundg (x.lz.length-(q+1))
        case measure=>omega
        case rel=>exact⟨q+1,by omega,by go_num,fun h=>(HL.out h).trans HR.out,xah hbq hby,hbq2.later hby,hlq.later xbq hby⟩
      ·have hdA:(x.ez == ep)=false:=by simpa using hA
       go_wp2
       go_roundg (x.lz.length-(q+1))
       case measure=>omega
       case rel=>exact⟨q+1,by omega,by go_num,fun h=>absurd h hA,xah hbq hby,hbq2.later hby,hlq.later xbq hby⟩
     ·have HR:Hid (xft xs s ep c=-1):=by
       show _=_
       rw[HG.out]
       by_cases hA:x.ez=ep
       ·rw[if_pos hA,HL.out hA,List.drop_eq_nil_of_le (by omega)];rfl
       ·rw[if_neg hA]
      go_wp2
      go_ret
      exact⟨xak HR.out.symm,hbq⟩
   ·have hp':eqS x.site s=false:=by simpa using hp
    have HG:Hid (xft xs s ep c=xft (xs.drop (j+1)) s ep c):=by show _=_;rw[HE.out,HD.out,if_neg hp]
    rw[hp'] at he;clear hp hp' HE HD;go_wp2
    go_roundg (gk-1)
    case measure=>omega
    case rel=>exact⟨j+1,by omega,by go_num,HG.out,hbx',hsj.later hbx⟩
  ·have HR:Hid (xft xs s ep c=-1):=by show _=_;rw[HE.out,List.drop_eq_nil_of_le (by omega)];rfl
   go_wp2
   go_ret
   exact⟨xak HR.out.symm,hbel⟩
def xal:List QV->List Value
 | []=>[]
 | v :: r=>.int .i64 v.k :: .int .i64 v.n :: xal r
theorem xbm:∀ q,(xal q).length=q.length*2
 | []=>rfl
 | p :: q=>by simp[xal,xbm q];omega
theorem xck:∀ q r,xal (q++r)=xal q++xal r
 | [],r=>rfl
 | p :: q,r=>by simp[xal,xck q r]
theorem xbO:∀ {q:List QV} {i:Nat} {x:QV},q[i]?=some x->(xal q)[i*2]?=some (.int .i64 x.k)/\(xal q)[i*2+1]?=some (.int .i64 x.n)
 | [],i,x,h=>by simp at h
 | p :: q,0,x,h=>by simp at h;subst h;exact⟨rfl,rfl⟩
 | p :: q,i+1,x,h=>by
  have:=xbO (q:=q) (i:=i) (x:=x) (by simpa using h)
  rw[show (i+1)*2=i*2+1+1 by omega]
  exact this
theorem xef:∀ (q:List QV) (i:Nat) (x:QV),((xal q).set (i*2) (.int .i64 x.k)).set (i*2+1) (.int .i64 x.n)=xal (q.set i x)
 | [],i,x=>by simp[xal]
 | p :: q,0,x=>by simp[xal]
 | p :: q,i+1,x=>by
  rw[show (i+1)*2=i*2+1+1 by omega]
  simp only[xal,List.set_cons_succ];rw[xef q i x]
theorem xdG:∀ (q:List QV) (n:Nat),(xal q).take (n*2)=xal (q.take n)
 | [],n=>by simp[xal]
 | p :: q,0=>by simp[xal]
 | p :: q,n+1=>by
  rw[show (n+1)*2=n*2+1+1 by omega]
  simp only[xal,List.take_succ_cons];rw[xdG q n]
theorem xe8:∀ (q:List QV) (n:Nat),(xal q).drop (n*2)=xal (q.drop n)
 | [],n=>by simp[xal]
 | p :: q,0=>by simp[xal]
 | p :: q,n+1=>by
  rw[show (n+1)*2=n*2+1+1 by omega]
  simp only[xal,List.drop_succ_cons]
  exact xe8 q n
theorem xfM:∀ n,xal (List.replicate n xaU)=List.replicate (n*2) (.int .i64 0)
 | 0=>rfl
 | n+1=>by
  rw[show (n+1)*2=n*2+1+1 by omega]
  simp only[List.replicate_succ,xal];rw[xfM n]
theorem xfV:∀ (q:List QV),∀ u∈xal q,u.oneCell'=true
 | [],u,h=>by simp[xal] at h
 | p :: q,u,h=>by
  simp only[xal,List.mem_cons] at h
  rcases h with rfl | rfl | h
  ·rfl
  ·rfl
  ·exact xfV q u h
theorem xco {E:Unit}:∀ {cs:List Value} {xs:List QV} {P:Nat->Prop} {w:World},Cells xmM 2 P w cs xs->cs=xal xs:=fun {cs xs P w} h=>by
 obtain⟨h1,h2⟩:=h
 apply List.ext_getElem?
 intro j
 by_cases hj:j<xs.length*2
 ·have hi:j / 2<xs.length:=by omega
  have hx:xs[j / 2]?=some xs[j / 2]:=by simp[hi]
  obtain⟨e1,e2⟩:=h2 _ _ hx;obtain⟨d1,d2⟩:=xbO hx
  rcases Nat.mod_two_eq_zero_or_one j with hm | hm
  ·have:j=j / 2*2:=by omega
   rw[this,d1];simpa using e1
  ·have:j=j / 2*2+1:=by omega
   rw[this,d2];simpa using e2
 ·rw[List.getElem?_eq_none (by omega),List.getElem?_eq_none (by rw[xbm];omega)]
structure Kp (S:Nat->Prop)(T:Nat->Nat)(w w':World):Prop where
 os:w'.os=w.os
 tape:w'.tape=w.tape
 output:w'.output=w.output
 size:w.heap.size<=w'.heap.size
 blk:∀ b,b<w.heap.size->¬ S (T b)->w'.heap[b]?=w.heap[b]?
def Ext (T T':Nat->Nat)(w:World):Prop:=∀ b,b<w.heap.size->T' b=T b
theorem Ext.refl (T:Nat->Nat)(w:World):Ext T T w:=fun _ _=>rfl
theorem Ext.trans {T T' T'':Nat->Nat}{w w':World}(h:Ext T T' w)(hs:w.heap.size<=w'.heap.size)(k:Ext T' T'' w'):Ext T T'' w:=fun b hb=>(k b (by omega)).trans (h b hb)
theorem Kp.refl (S:Nat->Prop)(T:Nat->Nat)(w:World):Kp S T w w:=⟨rfl,rfl,rfl,qzC _,fun _ _ _=>rfl⟩
theorem Kp.of_below {S:Nat->Prop}{T:Nat->Nat}{w w':World}(h:Below w.heap.size w w'):Kp S T w w':=⟨h.os,h.tape,h.output,h.size,fun b hb _=>h.block b hb⟩
theorem Kp.trans {S:Nat->Prop}{T T':Nat->Nat}{w w' w'':World}(h:Kp S T w w')(e:Ext T T' w)(k:Kp S T' w' w''):Kp S T w w'':=
 ⟨k.os.trans h.os,k.tape.trans h.tape,k.output.trans h.output,qzD h.size k.size,fun b hb hs=>(k.blk b (qzE hb h.size) (by rw[e b hb];exact hs)).trans (h.blk b hb hs)⟩
theorem Kp.on {S:Nat->Prop}{T:Nat->Nat}{w w' w'':World}(h:Kp S T w w')(k:Below w'.heap.size w' w''):Kp S T w w'':=h.trans (.refl _ _) (.of_below k)
theorem Kp.drew {S:Nat->Prop}{T:Nat->Nat}{w w':World}(h:Kp S T w w'):Kp S T w w'.drew:=⟨h.os,h.tape,h.output,h.size,h.blk⟩
theorem Kp.mono {S S':Nat->Prop}{T:Nat->Nat}{w w':World}(h:Kp S T w w')(hs:∀ t,S t->S' t):Kp S' T w w':=⟨h.os,h.tape,h.output,h.size,fun b hb n=>h.blk b hb fun k=>n (hs _ k)⟩
theorem Kp.tags {S:Nat->Prop}{T T':Nat->Nat}{w w':World}(h:Kp S T w w')(e:Ext T T' w):Kp S T' w w':=⟨h.os,h.tape,h.output,h.size,fun b hb n=>h.blk b hb (by rw[← e b hb];exact n)⟩
theorem Kp.below {S:Nat->Prop}{T:Nat->Nat}{w w':World}(h:Kp S T w w'){lo:Nat}(hl:∀ b,b<lo->¬ S (T b))(hs:lo<=w.heap.size):Below lo w w':=⟨h.os,h.tape,h.output,h.size,fun b hb=>h.blk b (by omega) (hl b hb)⟩
theorem Kp.set {S:Nat->Prop}{T:Nat->Nat}{w w':World}(h:Kp S T w w'){b:Nat}(hb:b<w.heap.size->S (T b))(o:Nat)(v:Value):Kp S T w (w'.setCell ⟨b,o,none⟩ v):=by
 have k:=qzL w'.heap.size w';have hd:Below 0 w' (w'.setCell ⟨b,o,none⟩ v):=(qzL 0 w').setCell (Nat.zero_le _) _;refine⟨hd.os.trans h.os,hd.tape.trans h.tape,hd.output.trans h.output,qzD h.size hd.size,fun c hc n=>?_⟩
 rw[xab (fun e=>n (by rw[e];exact hb (by omega)))]
 exact h.blk c hc n
theorem Kp.held {S:Nat->Prop}{T:Nat->Nat}{w w':World}(h:Kp S T w w'){b:Nat}{o:Obj}(hb:w.heap[b]?=some o)(hs:¬ S (T b)):w'.heap[b]?=some o:=by
 rw[h.blk b (xaf hb) hs];exact hb
theorem Kp.cell {S:Nat->Prop}{T:Nat->Nat}{w w':World}(h:Kp S T w w'){b o:Nat}{v:Value}(hb:w.cell? ⟨b,o,none⟩=some v)(hs:¬ S (T b)):w'.cell? ⟨b,o,none⟩=some v:=by
 have hl:=World.block_lt_of_cell? w ⟨b,o,none⟩ hb;unfold World.cell? at hb ⊢;rw[h.blk b hl hs]
 exact hb
abbrev Fx (T:Nat->Nat)(w:World):Nat->Prop:=fun b=>b<w.heap.size/\T b=0
abbrev Hx (T:Nat->Nat)(w:World):Nat->Prop:=fun b=>b<w.heap.size/\T b=2
theorem IsRow.fx {α:Type}{E:Lay α}{sz bytes:Nat}{t:Nat}{T T':Nat->Nat}{S:Nat->Prop}{w w':World}{v:Value}{xs:List α}(h:IsRow E sz bytes (fun b=>b<w.heap.size/\T b=t) w v xs)(G:Good E sz)(e:Ext T T' w)(k:Kp S T w w')(h0:¬ S t):IsRow E sz bytes (fun b=>b<w'.heap.size/\T' b=t) w' v xs:=
 h.keep G (Keeps.of_block fun b hb hl=>k.blk b hl (by rw[hb.2];exact h0)) fun b hb=>⟨qzE hb.1 k.size,by rw[e b hb.1];exact hb.2⟩
def xau (T:Nat->Nat)(w:World)(t:Nat):Nat->Nat:=fun b=>if b<w.heap.size then T b else t
theorem xao (T:Nat->Nat)(w:World)(t:Nat):Ext T (xau T w t) w:=fun b hb=>by simp[xau,hb]
theorem xav {T:Nat->Nat}{w:World}{t b:Nat}(h:w.heap.size<=b):xau T w t b=t:=by simp[xau];omega
def xhE (T:Nat->Nat)(g t:Nat):Nat->Nat:=fun b=>if b=g then t else T b
theorem xd5 {T:Nat->Nat}{w:World}{g t:Nat}(h:w.heap.size<=g):Ext T (xhE T g t) w:=fun b hb=>by simp[xhE];omega
theorem xdv (T:Nat->Nat)(g t:Nat):xhE T g t g=t:=by simp[xhE]
structure HeapSt (T:Nat->Nat)(w:World)(hv:Value)(g:Nat)(s:Nat->Nat)(xs:List QO):Prop where
 form:∃ cap,hv=.slice (some ⟨g,0,none⟩) xs.length cap/\xs.length<=cap/\cap<=maxLen
 len:xs.length*32<=140737488351232
 there:g<w.heap.size
 tg:T g=2
 obj:∀ i x,xs[i]?=some x->w.cell? ⟨g,i*2,none⟩=some (.int .i64 x.cls)/\w.cell? ⟨g,i*2+1,none⟩=some (.slice (some ⟨s i,0,none⟩) x.slots.length x.slots.length)/\w.heap[s i]?=some (.cells (xal x.slots).toArray 27 (0,0))/\T (s i)=2/\s i≠g/\x.slots.length*16<=140737488351232
 inj:∀ i j,i<xs.length->j<xs.length->s i=s j->i=j
theorem xeL {w:World}{g:Nat}{vs:List QV}{t:TypeId}(h:w.heap[g]?=some (.cells (xal vs).toArray t (0,0))){i:Nat}{x:QV}(hx:vs[i]?=some x):w.cell? ⟨g,i*2,none⟩=some (.int .i64 x.k)/\w.cell? ⟨g,i*2+1,none⟩=some (.int .i64 x.n):=by
 rw[qzB h,qzB h];have:=xbO hx
 simpa using this
theorem xgp {w:World}{g:Nat}{vs:List QV}{t:TypeId}{P:Nat->Prop}(h:w.heap[g]?=some (.cells (xal vs).toArray t (0,0)))(hP:P g)(hb:vs.length*16<=140737488351232):xaB P w (.slice (some ⟨g,0,none⟩) vs.length vs.length) vs:=by
 refine⟨_,_,rfl,qzC _,by unfold maxLen;omega,hb,fun i x hx=>⟨g,0,rfl,hP,?_⟩⟩
 have:=xeL h hx;simp only[Nat.zero_add]
 exact⟨by simpa using this.1,this.2⟩
theorem HeapSt.heap {T:Nat->Nat}{w:World}{hv:Value}{g:Nat}{s:Nat->Nat}{xs:List QO}(h:HeapSt T w hv g s xs):xaC (Hx T w) w hv xs:=by
 obtain⟨cap,rfl,h1,h2⟩:=h.form;refine⟨_,_,rfl,h1,h2,h.len,fun i x hx=>⟨g,0,rfl,⟨h.there,h.tg⟩,?_⟩⟩
 obtain⟨e1,e2,e3,e4,e5,e6⟩:=h.obj i x hx;simp only[Nat.zero_add]
 exact⟨by simpa using e1,_,e2,xgp e3 ⟨xaf e3,e4⟩ e6⟩
theorem HeapSt.keep {T T':Nat->Nat}{S:Nat->Prop}{w w':World}{hv:Value}{g:Nat}{s:Nat->Nat}{xs:List QO}(h:HeapSt T w hv g s xs)(e:Ext T T' w)(k:Kp S T w w')(h2:¬ S 2):HeapSt T' w' hv g s xs:=by
 refine⟨h.form,h.len,qzE h.there k.size,by rw[e g h.there];exact h.tg,fun i x hx=>?_,h.inj⟩
 obtain⟨e1,e2,e3,e4,e5,e6⟩:=h.obj i x hx
 exact⟨k.cell e1 (by rw[h.tg];exact h2),k.cell e2 (by rw[h.tg];exact h2),k.held e3 (by rw[e4];exact h2),by rw[e _ (xaf e3)];exact e4,e5,e6⟩
theorem xiC {w:World}{g:Nat}{vs:List QV}{t:TypeId}(h:w.heap[g]?=some (.cells (xal vs).toArray t (0,0)))(j:Nat)(v:QV):((w.setCell ⟨g,j*2,none⟩ (.int .i64 v.k)).setCell ⟨g,j*2+1,none⟩ (.int .i64 v.n)).heap[g]?=some (.cells (xal (vs.set j v)).toArray t (0,0)):=by
 rw[xad (xad h _),← xef]
 simp
abbrev VV (v:QV):Value:=.agg #[.int .i64 v.k,.int .i64 v.n]
theorem xc0 {P:Nat->Prop}(l:List QV)(lv:Value)(n:Int)(w:World)(h:xaB P w lv l):Calls Tryz.prog 92 #[lv,.int .i64 n] w fun e w'=>e=.returned (VV (xaM l n))/\Below w.heap.size w w':=by
 obtain⟨ad,cap,rfl,hl,hcap,hby,hrow⟩:=h;unfold maxLen at hcap
 by_cases hn:n<0
 ·have HE:Hid (xaM l n=xaU):=by show _=_;unfold xaM;rw[if_pos hn]
  have hn':decide (n<0)=true:=by simpa using hn
  go_enter Tryz.func92,Tryz.ntmps92;go_wp2;refine qzK (v:=VV xaU) ?_ rfl ⟨by rw[HE.out],xaj _ _⟩
  simp[results,Tryz.results92,go_sem]
 ·have hn':decide (n<0)=false:=by simpa using hn
  obtain⟨k,rfl⟩:∃ k:Nat,n=k:=⟨n.toNat,by omega⟩
  by_cases hk:k<l.length
  ·have hx:l[k]?=some l[k]:=by simp[hk]
   have HE:Hid (xaM l k=l[k]):=by show _=_;unfold xaM;rw[if_neg hn];simp[hk]
   generalize l[k]=x at *;obtain⟨b,o,rfl,-,h0,h1⟩:=hrow k x hx;simp only[Nat.add_zero] at h0;have c0:=qzA (xaj w (.cells #[.int .i64 0,.int .i64 0] 27)) h0;have c1:=qzA (xaj w (.cells #[.int .i64 0,.int .i64 0] 27)) h1;have hk1:(k:Int)<(l.length:Int):=by omega
   have hk2:¬ ((l.length:Int)<=(k:Int)):=by omega
   go_enter Tryz.func92,Tryz.ntmps92;go_wp2;refine qzK (v:=VV x) ?_ rfl ⟨by rw[HE.out],xaj _ _⟩
   simp[results,Tryz.results92,go_sem]
  ·have HE:Hid (xaM l k=xaU):=by show _=_;unfold xaM;rw[if_neg hn];simp[hk]
   have hk2:((l.length:Int)<=(k:Int)):=by omega
   go_enter Tryz.func92,Tryz.ntmps92;go_wp2;refine qzK (v:=VV xaU) ?_ rfl ⟨by rw[HE.out],xaj _ _⟩
   simp[results,Tryz.results92,go_sem]
theorem xji (n:Nat):madeCells #[.int .i64 0,.int .i64 0] (n*2)=(xal (List.replicate n xaU)).toArray:=by
 rw[xfM];unfold madeCells
 apply Array.ext
 ·simp
 ·intro i h1 h2
  simp
  rcases Nat.mod_two_eq_zero_or_one i with h | h<;>simp[h]
theorem xeR (n:Int)(w:World):Calls Tryz.prog 93 #[.int .i64 n] w fun e w'=>∃ g,e=.returned (.slice (some ⟨g,0,none⟩) (xaQ n).length (xaQ n).length)/\w'.heap[g]?=some (.cells (xal (xaQ n)).toArray 27 (0,0))/\w.heap.size<=g/\Below w.heap.size w w':=by
 by_cases hn:n<0
 ·have HR:Hid (xaQ n=List.replicate 0 xaU):=by show _=_;unfold xaQ;congr 1;omega
  have hmk:∀ w:World,(Instr.makeSlice 28 (.int .i64 0) (.int .i64 0)).run Tryz.prog w=.ok (.slice (some ⟨w.heap.size,0,none⟩) 0 0) (w.alloc (.cells (madeCells #[.int .i64 0,.int .i64 0] (0*2)) 27)):=xcA 0 (by omega)
  have hn':decide (n<0)=true:=by simpa using hn
  go_enter Tryz.func93,Tryz.ntmps93;go_wp2
  go_ret
  rw[HR.out,List.length_replicate]
  exact⟨_,rfl,by rw[← xji];exact qzJ _ _,qzC _,xaj _ _⟩
 ·obtain⟨m,rfl⟩:∃ m:Nat,n=(m:Int):=⟨n.toNat,by omega⟩
  by_cases hm4:m<=40
  ·have HR:Hid (xaQ m=List.replicate m xaU):=by show _=_;unfold xaQ;congr 1;omega
   have hmk:=xcA m (by omega)
   have hm5:(m:Int)<=40:=by omega
   have hm6:¬ (40<(m:Int)):=by omega
   go_enter Tryz.func93,Tryz.ntmps93;go_wp2
   go_ret
   rw[HR.out,List.length_replicate]
   exact⟨_,rfl,by rw[← xji];exact qzJ _ _,qzC _,xaj _ _⟩
  ·have HR:Hid (xaQ m=List.replicate 40 xaU):=by show _=_;unfold xaQ;congr 1;omega
   have hmk:∀ w:World,(Instr.makeSlice 28 (.int .i64 40) (.int .i64 40)).run Tryz.prog w=.ok (.slice (some ⟨w.heap.size,0,none⟩) 40 40) (w.alloc (.cells (madeCells #[.int .i64 0,.int .i64 0] (40*2)) 27)):=xcA 40 (by omega)
   have hm5:40<(m:Int):=by omega
   go_enter Tryz.func93,Tryz.ntmps93;go_wp2
   go_ret
   rw[HR.out,List.length_replicate]
   exact⟨_,rfl,by rw[← xji];exact qzJ _ _,qzC _,xaj _ _⟩
theorem xeB (l:List QV)(g:Nat)(n:Int)(v:QV)(w:World)(h:w.heap[g]?=some (.cells (xal l).toArray 27 (0,0))):Calls Tryz.prog 104 #[.slice (some ⟨g,0,none⟩) l.length l.length,.int .i64 n,VV v] w fun e w'=>e=.returned (.tuple #[])/\w'.heap[g]?=some (.cells (xal (xaV l n v)).toArray 27 (0,0))/\w.heap.size<w'.heap.size/\∀ (S:Nat->Prop) (T:Nat->Nat),S (T g)->Kp S T w w':=by
 have hgl:=xaf h;have hb1:=xaj w (.cells #[.int .i64 v.k,.int .i64 v.n] 27);have h1:=xac h hb1
 by_cases hn:n<0
 ·have HE:Hid (xaV l n v=l):=by show _=_;unfold xaV;rw[if_pos hn]
  have hn':decide (0<=n)=false:=by simpa using hn
  go_enter Tryz.func104,Tryz.ntmps104;go_wp2;refine bodyPost_end (v:=.tuple #[]) (by simp[results,Tryz.results104,go_sem]) rfl ⟨rfl,by rw[HE.out];exact h1,by simp,fun S T hs=>Kp.of_below (xaj _ _)⟩
 ·obtain⟨k,rfl⟩:∃ k:Nat,n=k:=⟨n.toNat,by omega⟩
  have HE:Hid (xaV l k v=l.set k v):=by show _=_;unfold xaV;rw[if_neg hn];simp
  have hn':decide (0<=(k:Int))=true:=by simp
  by_cases hk:k<l.length
  ·have hk1:(k:Int)<(l.length:Int):=by omega
   obtain⟨c0,c1⟩:=xeL h1 (show l[k]?=some l[k] by simp[hk])
   have f0:∀ o,(w.alloc (.cells #[.int .i64 v.k,.int .i64 v.n] 27)).frozen? ⟨g,o,none⟩=false:=fun o=>by unfold World.frozen?;simp only[h1];simp
   have hset:=xiC h1 k v;have b0:=(xaa w #[.int .i64 v.k,.int .i64 v.n] 27 _ rfl 0);have b1:=(xaa w #[.int .i64 v.k,.int .i64 v.n] 27 _ rfl 1);have HK:Hid (∀ (S:Nat->Prop) (T:Nat->Nat),Kp S T w (w.alloc (.cells #[.int .i64 v.k,.int .i64 v.n] 27))):=fun S T=>Kp.of_below (xaj _ _)
   have hz:w.heap.size<(w.alloc (.cells #[.int .i64 v.k,.int .i64 v.n] 27)).heap.size:=by simp
   have hne:¬ w.heap.size=g:=by omega
   have hne':¬ g=w.heap.size:=by omega
   go_enter Tryz.func104,Tryz.ntmps104
   go_upto_region 1 with (fail)
   generalize (w.alloc (.cells #[.int .i64 v.k,.int .i64 v.n] 27))=W at *
   simp at b0 b1
   go_wp2;refine bodyPost_end (v:=.tuple #[]) (by simp[results,Tryz.results104,go_sem]) rfl ⟨rfl,by rw[HE.out];exact hset,by simpa using hz,fun S T hs=>((HK.out S T).set (fun _=>hs) _ _).set (fun _=>hs) _ _⟩
  ·have hk1:((l.length:Int)<=(k:Int)):=by omega
   have hs:l.set k v=l:=List.set_eq_of_length_le (by omega)
   go_enter Tryz.func104,Tryz.ntmps104;go_wp2;refine bodyPost_end (v:=.tuple #[]) (by simp[results,Tryz.results104,go_sem]) rfl ⟨rfl,by rw[HE.out,hs];exact h1,by simp,fun S T hs=>Kp.of_below (xaj _ _)⟩
end Go.Proofs.YtapbeiccodnniaaGreat
