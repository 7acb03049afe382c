/- A part. -/
import Derived.Test.YtapbeiccodnniaaGreatM5
namespace Go.Proofs.YtapbeiccodnniaaGreat
open Go.ChangeShapes Go.WideShapes Go.ChangeAt Go.RowKit
set_option linter.unusedSimpArgs false
set_option linter.unusedVariables false
set_option maxHeartbeats 8000000
theorem xmI:(Tryz.prog.info? 97).map (fun i=>(i.zero,i.size,i.bytes))=some (some (.agg #[.int .i64 0,.string ⟨#[]⟩,.int .i64 0,.slice none 0 0]),4,56):=by kernel_rfl
theorem xg9 (n:Nat)(hb:n*56<=281474976710656):xey 32 97 #[.int .i64 0,.string ⟨#[]⟩,.int .i64 0,.slice none 0 0] 4 n:=fun w=>xgj Tryz.underlying32 xmI (by omega) n hb rfl w
structure OwnT (w:World)(B:Nat)(xs:List QT)(j:Nat)(gs:Nat->Nat):Prop where
 row:∃ cur:Array Value,w.heap[B]?=some (.cells cur 97 (0,0))/\cur.size=xs.length*4
 rise:∀ i k,i<k->k<j->gs i<gs k
 reach:∀ i,i<j->B<gs i/\gs i<w.heap.size
 lz:∀ i x,i<j->xs[i]?=some x->OwnSt xda 2 72 w (gs i) x.lz x.lz.length
 cells:∀ i x,i<j->xs[i]?=some x->w.cell? ⟨B,i*4+0,none⟩=some (.int .i64 x.site.cls)/\w.cell? ⟨B,i*4+1,none⟩=some (.string x.site.name)/\w.cell? ⟨B,i*4+2,none⟩=some (.int .i64 x.site.at')/\w.cell? ⟨B,i*4+3,none⟩=some (.slice (some ⟨gs i,0,none⟩) x.lz.length x.lz.length)
theorem OwnT.later {w w':World}{B:Nat}{xs:List QT}{j:Nat}{gs:Nat->Nat}(h:OwnT w B xs j gs)(hb:Below w.heap.size w w'):OwnT w' B xs j gs where
 row:=by
  obtain⟨cur,h1,h2⟩:=h.row
  exact⟨cur,by rw[hb.block _ (xaf h1)];exact h1,h2⟩
 rise:=h.rise
 reach:=fun i hi=>⟨(h.reach i hi).1,qzE (h.reach i hi).2 hb.size⟩
 lz:=fun i x hi hx=>(h.lz i x hi hx).later xbq hb
 cells:=fun i x hi hx=>by
  obtain⟨h0,h1,h2,h3⟩:=h.cells i x hi hx
  exact⟨qzA hb h0,qzA hb h1,qzA hb h2,qzA hb h3⟩
theorem OwnT.start (w:World)(xs:List QT)(c:Array Value)(hc:c.size=xs.length*4):OwnT (w.alloc (.cells c 97)) w.heap.size xs 0 (fun _=>0):=
 ⟨⟨c,qzJ w _,hc⟩,fun _ _ _ h=>by omega,fun _ h=>by omega,fun _ _ h=>by omega,fun _ _ h=>by omega⟩
theorem OwnSt.ofBlock {α:Type}{E:Lay α}{sz:Nat}(G:Good E sz){t:TypeId}{w w':World}{B:Nat}{xs:List α}{j:Nat}(h:OwnSt E sz t w B xs j)(hs:w.heap.size<=w'.heap.size)(hb:∀ b,B<=b->b<w.heap.size->w'.heap[b]?=w.heap[b]?):OwnSt E sz t w' B xs j:=by
 obtain⟨⟨cur,h1,h2⟩,h3⟩:=h;have hB:=xaf h1;refine⟨⟨cur,by rw[hb _ (qzC _) hB];exact h1,h2⟩,fun i x hi hx=>?_⟩
 refine G.move (h3 i x hi hx) (fun b h=>⟨h.1,by omega⟩) (.of_block fun b h1 h2=>hb b (by omega) h2) fun k hk v hv=>?_
 unfold World.cell? at hv ⊢;rw[hb _ (qzC _) hB]
 exact hv
theorem OwnT.step {w:World}{B:Nat}{xs:List QT}{j:Nat}{gs:Nat->Nat}{x:QT}{g:Nat}(h:OwnT w B xs j gs)(hx:xs[j]?=some x)(hg:∀ i,i<j->gs i<g)(hB:B<g)(hgl:g<w.heap.size)(hl:OwnSt xda 2 72 w g x.lz x.lz.length) :
  OwnT (w.setCells B (j*4) [.int .i64 x.site.cls,.string x.site.name,.int .i64 x.site.at',.slice (some ⟨g,0,none⟩) x.lz.length x.lz.length]) B xs (j+1) (fun i=>if i=j then g else gs i):=by
 have hj:=xae hx;obtain⟨cur,h1,h2⟩:=h.row;have hz:=xbh (B:=B) [.int .i64 x.site.cls,.string x.site.name,.int .i64 x.site.at',.slice (some ⟨g,0,none⟩) x.lz.length x.lz.length] (j*4) w;have hin:=fun k (hk:k<4)=>World.cell?_setCells_in B [.int .i64 x.site.cls,.string x.site.name,.int .i64 x.site.at',.slice (some ⟨g,0,none⟩) x.lz.length x.lz.length] (j*4) w (fun q hq=>by rw[qzB h1];simp at hq;simp;omega) k (by simpa using hk)
 have hel:∀ b,b≠B->(w.setCells B (j*4) [.int .i64 x.site.cls,.string x.site.name,.int .i64 x.site.at',.slice (some ⟨g,0,none⟩) x.lz.length x.lz.length]).heap[b]?=w.heap[b]?:=fun b hb=>xaI hb _ _ _
 have hout:∀ i k,i<j->k<4->(w.setCells B (j*4) [.int .i64 x.site.cls,.string x.site.name,.int .i64 x.site.at',.slice (some ⟨g,0,none⟩) x.lz.length x.lz.length]).cell? ⟨B,i*4+k,none⟩=w.cell? ⟨B,i*4+k,none⟩:=fun i k hi hk=>by
  rw[World.cell?_setCells_out B _ (j*4) w _ (fun _ _=>Or.inl ?_)]
  simp;omega
 constructor
 ·exact xbJ _ _ w ⟨cur,h1,h2⟩
 ·intro i k hik hk
  by_cases hkj:k=j
  ·simp only[hkj,if_true];rw[if_neg (by omega)];exact hg i (by omega)
  ·rw[if_neg hkj,if_neg (by omega)];exact h.rise i k hik (by omega)
 ·intro i hi;rw[hz]
  by_cases hij:i=j
  ·simp only[hij,if_true];exact⟨hB,hgl⟩
  ·rw[if_neg hij];exact h.reach i (by omega)
 ·intro i y hi hy
  by_cases hij:i=j
  ·subst hij;rw[hx] at hy;cases hy;simp only[if_true]
   exact hl.ofBlock xbq (by rw[hz];exact qzC _) fun b hb _=>hel b (by omega)
  ·rw[if_neg hij];have hr:=(h.reach i (by omega)).1
   exact (h.lz i y (by omega) hy).ofBlock xbq (by rw[hz];exact qzC _) fun b hb _=>hel b (by omega)
 ·intro i y hi hy
  by_cases hij:i=j
  ·subst hij;rw[hx] at hy;cases hy;simp only[if_true]
   exact⟨hin 0 (by omega),hin 1 (by omega),hin 2 (by omega),hin 3 (by omega)⟩
  ·rw[if_neg hij,hout i 0 (by omega) (by omega),hout i 1 (by omega) (by omega),hout i 2 (by omega) (by omega),hout i 3 (by omega) (by omega)]
   exact h.cells i y (by omega) hy
theorem OwnSt.isLines {w:World}{g:Nat}{ls:List QL}(h:OwnSt xda 2 72 w g ls ls.length)(hm:ls.length<=maxLen){P:Nat->Prop}(hP:P g):xbI P w (.slice (some ⟨g,0,none⟩) ls.length ls.length) ls:=by
 obtain⟨⟨cur,h1,h2⟩,h3⟩:=h;refine⟨_,_,rfl,qzC _,hm,by simp,fun i x hx=>⟨g,0,rfl,hP,?_⟩⟩
 have:=h3 i x (xae hx) hx;simp only[Nat.zero_add]
 exact this
theorem OwnT.tallies {w:World}{B:Nat}{xs:List QT}{gs:Nat->Nat}(h:OwnT w B xs xs.length gs)(hm:xs.length<=maxLen)(hl:∀ x∈xs,x.lz.length<=maxLen){P:Nat->Prop}(hP:∀ b,B<=b->b<w.heap.size->P b):xbc P w (.slice (some ⟨B,0,none⟩) xs.length xs.length) xs:=by
 obtain⟨cur,h1,h2⟩:=h.row;refine⟨_,_,rfl,qzC _,hm,by simp,fun i x hx=>⟨B,0,rfl,hP _ (qzC _) (xaf h1),?_⟩⟩
 have hi:=xae hx;obtain⟨c0,c1,c2,c3⟩:=h.cells i x hi hx;have hr:=h.reach i hi;simp only[Nat.zero_add]
 exact⟨c0,c1,c2,_,c3,(h.lz i x hi hx).isLines (hl x (List.mem_of_getElem? hx)) (hP _ (by omega) hr.2)⟩
structure BoxT (w:World)(b:Nat)(x:QT)(lv:Value):Prop where
 c0:w.cell? ⟨b,0,none⟩=some (.int .i64 x.site.cls)
 c1:w.cell? ⟨b,1,none⟩=some (.string x.site.name)
 c2:w.cell? ⟨b,2,none⟩=some (.int .i64 x.site.at')
 c3:w.cell? ⟨b,3,none⟩=some lv
theorem BoxT.later {w w':World}{b:Nat}{x:QT}{lv:Value}(h:BoxT w b x lv)(hb:Below w.heap.size w w'):BoxT w' b x lv:=⟨qzA hb h.c0,qzA hb h.c1,qzA hb h.c2,qzA hb h.c3⟩
theorem BoxT.set {w:World}{b:Nat}{x:QT}{lv:Value}(h:BoxT w b x lv){a:Addr}(ha:b≠a.block)(u:Value):BoxT (w.setCell a u) b x lv:=by
 have hn:∀ k,a≠(⟨b,k,none⟩:Addr):=fun k e=>ha (by rw[e])
 exact⟨by rw[qzM _ _ _ _ (hn 0)];exact h.c0,by rw[qzM _ _ _ _ (hn 1)];exact h.c1,by rw[qzM _ _ _ _ (hn 2)];exact h.c2,by rw[qzM _ _ _ _ (hn 3)];exact h.c3⟩
theorem BoxT.all {w:World}{b:Nat}{x:QT}{lv:Value}(h:BoxT w b x lv):w.cell? ⟨b,0,none⟩=some (.int .i64 x.site.cls)/\w.cell? ⟨b,1,none⟩=some (.string x.site.name)/\w.cell? ⟨b,2,none⟩=some (.int .i64 x.site.at')/\w.cell? ⟨b,3,none⟩=some lv:=⟨h.c0,h.c1,h.c2,h.c3⟩
theorem xlL (w:World)(x:QT)(lv:Value)(t:TypeId):BoxT (w.alloc (.cells #[.int .i64 x.site.cls,.string x.site.name,.int .i64 x.site.at',lv] t)) w.heap.size x lv:=⟨by rw[xaa _ _ _ _ rfl];rfl,by rw[xaa _ _ _ _ rfl];rfl,by rw[xaa _ _ _ _ rfl];rfl,by rw[xaa _ _ _ _ rfl];rfl⟩
theorem xgF {P:Nat->Prop}(xs:List QT)(v:Value)(w:World)(hh:xbc P w v xs)(hby:xs.length*56<=281474976710656)(hls:∀ x∈xs,x.lz.length*16<=281474976710656):Calls Tryz.prog 21 #[v] w fun e w'=>∃ g gs,e=.returned (.slice (some ⟨g,0,none⟩) xs.length xs.length)/\OwnT w' g xs xs.length gs/\w.heap.size<=g/\Below w.heap.size w w':=by
 obtain⟨ad,cap,rfl,hl,hcap,-,hrow⟩:=hh;have hmk:=xg9 xs.length hby;go_enter Tryz.func21,Tryz.ntmps21;go_wp2
 go_loopg [11] xs.length (fun g c wr=>∃ (j:Nat) (gs:Nat->Nat),j+g=xs.length/\c=.int .i64 j/\Below w.heap.size w wr/\OwnT wr w.heap.size xs j gs/\w.heap.size<wr.heap.size)
 case atStart=>exact⟨0,_,by omega,rfl,xaj _ _,OwnT.start _ _ _ (size_madeCells _ _),by simp⟩
 case round=>
  obtain⟨j,gs,hj,rfl,hbel,hst,hz⟩:=hrel;clear hmk
  by_cases hlt:j<xs.length
  ·obtain⟨b,o,rfl,-,hv0,hv1,hv2,sv,hv3,hsl⟩:=hrow j xs[j] (by simp[hlt])
   have hxj:Hid (xs[j]?=some xs[j]):=by show _=_;simp[hlt]
   have hlj:=hls xs[j] (by simp)
   generalize xs[j]=x at *;simp only[Nat.add_zero] at hv0;have u0:=qzA hbel hv0;have u1:=qzA hbel hv1;have u2:=qzA hbel hv2;have u3:=qzA hbel hv3;have hsl2:=hsl.later xbq hbel;obtain⟨ad2,cap2,rfl,-,-,-,-⟩:=id hsl2;clear hv0 hv1 hv2 hv3 hsl hrow;have hj1:(j:Int)<(xs.length:Int):=by omega
   have hj0:(0:Int)<=(j:Int):=by omega
   go_wp2;have hbx:=(xlL wr x (.slice ad2 x.lz.length cap2) 97);have hW1:=xaj wr (Obj.cells #[Value.int .i64 x.site.cls,Value.string x.site.name,Value.int .i64 x.site.at',Value.slice ad2 x.lz.length cap2] 97);have hIV:=hsl2.later xbq hW1;have hst1:=hst.later hW1;have hbel1:=hbel.trans (hW1.mono (by omega))
   have hzz:(wr.alloc (Obj.cells #[Value.int .i64 x.site.cls,Value.string x.site.name,Value.int .i64 x.site.at',Value.slice ad2 x.lz.length cap2] 97)).heap.size=wr.heap.size+1:=by simp
   have hreach:=hst.reach;clear hsl2 hst u0 u1 u2 u3;generalize (wr.alloc (Obj.cells #[Value.int .i64 x.site.cls,Value.string x.site.name,Value.int .i64 x.site.at',Value.slice ad2 x.lz.length cap2] 97))=W1 at *;generalize wr.heap.size=B1 at *;have hbx1:=hbx.later (qzL _ W1).drew;have c0:=hbx1.c0;have c1:=hbx1.c1;have c2:=hbx1.c2;have c3:=hbx1.c3;have hIV1:=hIV.later xbq (qzL _ W1).drew;have hst2:=hst1.later (qzL _ W1).drew
   go_region_held3 (fun w'=>w'.cell? ⟨B1,0,none⟩=some (.int .i64 x.site.cls)/\w'.cell? ⟨B1,1,none⟩=some (.string x.site.name)/\w'.cell? ⟨B1,2,none⟩=some (.int .i64 x.site.at')/\w'.cell? ⟨B1,3,none⟩=some (Value.slice ad2 x.lz.length cap2))
    (first | exact hbx1.all | exact d1.all | exact ((((d1.set (by simp;omega) _).set (by simp;omega) _).set (by simp;omega) _).set (by simp;omega) _).all)
    (first | (go_at_call 40;refine (xge x.lz _ _ hIV1 hlj).mono ?_;rintro e w1 ⟨g,rfl,hown,hg,hb1⟩;have hst3:=hst2.later hb1;obtain⟨cur,k1,k2⟩:=id hst3.row;have f1:∀ o,w1.frozen? ⟨w.heap.size,o,none⟩=false:=fun o=>(by simp[World.frozen?,k1]);have d1:=hbx1.later hb1;have e0:w1.cell? ⟨w.heap.size,j*4,none⟩=some (cur[j*4]'(by omega)):=(by rw[qzB k1];simp);have e1:w1.cell? ⟨w.heap.size,j*4+1,none⟩=some (cur[j*4+1]'(by omega)):=(by rw[qzB k1];simp);have e2:w1.cell? ⟨w.heap.size,j*4+2,none⟩=some (cur[j*4+2]'(by omega)):=(by rw[qzB k1];simp);have e3:w1.cell? ⟨w.heap.size,j*4+3,none⟩=some (cur[j*4+3]'(by omega)):=(by rw[qzB k1];simp)))
   go_wp2
   go_roundg (gk-1)
   case measure=>omega
   case rel=>
    have hlt1:w.heap.size<w1.heap.size:=qzE (by simp;omega) hb1.size
    have hg':W1.heap.size<=g:=by simpa using hg
    refine⟨j+1,(fun i=>if i=j then g else gs i),by omega,by go_num,((((hbel1.drew.trans (hb1.mono (by simp;omega))).setCell (qzC _) _).setCell (qzC _) _).setCell (qzC _) _).setCell (qzC _) _,?_,by simp;omega⟩
    refine hst3.step hxj.out (g:=g) ?_ ?_ ?_ hown
    ·intro i hi;have:=(hreach i hi).2;omega
    ·omega
    ·obtain⟨cur',q1,-⟩:=hown.1;exact xaf q1
  ·obtain rfl:j=xs.length:=by omega
   go_wp2
   go_ret
   exact⟨_,_,rfl,hst,qzC _,hbel⟩
theorem xql {α:Type}{E:Lay α}{sz:Nat}(G:Good E sz){w:World}{base:Nat}{e:TypeId}{v:Value}{n:Nat}{vs:List Value}{xs:List α}{P:Nat->Prop}(h:w.ownsRow base e sz v n vs)(hx:xs.length=n)(hc:Cells E sz P w vs xs)(hP:∀ g,base<=g->g<w.heap.size->P g):IsRow E sz 0 P w v xs:=by
 obtain⟨hl,⟨rfl,h0⟩ | ⟨g,cap,cur,rfl,h1,h2,h3,h4,h5,h6⟩⟩:=h
 ·subst hx;obtain rfl:xs=[]:=List.eq_nil_of_length_eq_zero h0
  exact⟨none,0,rfl,by simp,by simp,by simp,fun i x hx=>by simp at hx⟩
 ·subst hx
  exact hc.row G (hP g h1 (xaf h2)) h2 h6 h3 h4 (by simp)
section
variable {α:Type} {E:Lay α} {sz:Nat} {P P' R:Nat->Prop} {w:World} {ops:Array Oper} {rest:List Oper} {o:Oper} {a:Act} {Q:Exit->Act->World->Prop}
theorem xbp (G:Good E sz)(hgd:o.guard=none)(s x:Operand)(T:TypeId)(ho:o.op=.call { callee:=.builtin .append,args:=#[s,x],argTypes:=#[T,T] })
  (e:TypeId) (z:Value) (bytes:Nat) (hu:Tryz.prog.underlying T=some (.slice e)) (hI:(Tryz.prog.info? e).map (fun i=>(i.zero,i.size,i.bytes))=some (some z,sz,bytes)) (hz:z.cells.size=sz)
  (xs:List α) (ao:Option Addr) (hs:a.eval s=.slice ao xs.length xs.length) (hrow:IsRow E sz 0 P w (.slice ao xs.length xs.length) xs)
  (B:Nat) (t:TypeId) (vs:List Value) (hx:a.eval x=.slice (some ⟨B,0,none⟩) 1 1) (hB:w.heap[B]?=some (.cells vs.toArray t (0,0))) (hvs:vs.length=sz) (y:α) (hy:E P' w (fun k=>vs[k]?) y)
  (hao:ao=none->xs=[]) (hb1:xs.length+1<=maxLen) (hb2:(xs.length+1)*bytes<=190000000000000/\bytes<=10000) (hPR:∀ b,P b->R b) (hPR':∀ b,P' b->R b)
  (h:∀ g cap w',(∀ (S:Nat->Prop),(∀ b,R b->S b)->S g->IsRow E sz 0 S w' (.slice (some ⟨g,0,none⟩) (xs.length+1) cap) (xs++[y]))->w.heap.size<=g->g<w'.heap.size->Below w.heap.size w w'->(∃ cur:Array Value,w'.heap[g]?=some (.cells cur e (0,0))/\cur.size=cap*sz/\xs.length+1<=cap/\cap<=maxLen/\Cells E sz R w' (cur.toList.take ((xs.length+1)*sz)) (xs++[y])/\∀ k v,vs[k]?=some v->w'.cell? ⟨g,xs.length*sz+k,none⟩=some v)->wpList Tryz.prog ops Q rest (a.put o.dst (.slice (some ⟨g,0,none⟩) (xs.length+1) cap)) w'):wpList Tryz.prog ops Q (o :: rest) a w:=by
 obtain⟨i0,hi,hz0,hz1,hz2⟩:=xa3 hI;obtain⟨ad,cap0,e0,hl,hcap,-,hr⟩:=hrow;simp only[Value.slice.injEq] at e0;obtain⟨rfl,-,-⟩:=e0;obtain⟨cs,hcs,hsrc⟩:=hr.cells G;have hp:=G.pos;refine xrB w hgd s x T ho e i0 z sz bytes hu hi hz0 hz1 hz2 hz hp ao xs.length cs hs (fun hn=>by rw[hao hn];simp) hcs.1 (fun b hb j u hj=>by obtain⟨a',e',h'⟩:=hsrc j u hj;rw[hb] at e';cases e';exact h') ⟨B,0,none⟩ 1 vs hx (by simpa using hvs) (fun j u hj=>by exact World.news_of_block hB j u (by simpa using hj)) ?_ hb1 hb2.1 hb2.2 ?_
 ·intro u hu;obtain⟨j,hj,rfl⟩:=List.mem_iff_getElem.1 hu;obtain⟨v,hv,hone⟩:=G.there hy j (by omega)
  simp only[List.getElem?_eq_getElem hj] at hv
  cases hv
  exact hone
 ·intro v' w' hown hgr;have hbel:Below w.heap.size w w':=(qzL _ _).grown hgr (qzC _) (fun k hk=>by cases hk)
  obtain⟨hl',⟨rfl,h0⟩ | ⟨g,cap,cur,rfl,h1,h2,h3,h4,h5,h6⟩⟩:=id hown
  ·omega
  ·have hC:Cells E sz R w' (cs++vs) (xs++[y]):=by
    refine Cells.append (Cells.keep hcs G (.of_below hbel) hPR) G (Cells.one G hvs ?_)
    exact G.move hy hPR' (.of_below hbel) fun _ _ _ h=>h
   refine h g cap w' (fun S hS hg=>?_) h1 (xaf h2) hbel ⟨cur,h2,h5,h3,h4,by rw[h6];exact hC,fun k v hk=>?_⟩
   rotate_left
   ·have hkl:=xae hk;rw[qzB h2];have h6':=congrArg (fun l=>l[xs.length*sz+k]?) h6
    simp only[List.getElem?_take] at h6';rw[if_pos (by rw[Nat.add_mul];omega),List.getElem?_append_right (by rw[hcs.1];omega),hcs.1,Nat.add_sub_cancel_left,hk] at h6'
    simpa using h6'
   have:=(hC.keep G (.refl _ _) hS).row G (g:=g) (cap:=cap) (bytes:=0) hg h2 (by simpa using h6) (by simpa using h3) h4 (by simp)
   simpa using this
end
def xbo:List QL->Int->List QL
 | [],c=>[⟨c,1⟩]
 | x :: r,c=>if x.cls == c then ⟨x.cls,wrap64 (x.found+1)⟩ :: r else x :: xbo r c
theorem xez:∀ {ls:List QL} {c:Int},xbt (fun x=>x.cls == c) ls=-1->xbo ls c=ls++[⟨c,1⟩]
 | [],c,_=>rfl
 | x :: r,c,h=>by
  have hx:(x.cls == c)=false:=by
   cases hb:x.cls == c with
   | false=>rfl
   | true=>rw[xb4 (j:=0) (x:=x) rfl hb (fun i y hi _=>by omega)] at h;simp at h
  have hr:xbt (fun x:QL=>x.cls == c) r=-1:=by
   unfold xbt at h ⊢;rw[List.findIdx?_cons,hx] at h
   cases hf:r.findIdx? (fun x=>x.cls == c) with
   | none=>rfl
   | some k=>rw[hf] at h;simp at h;omega
  simp[xbo,hx,xez hr]
theorem xfY:∀ {ls:List QL} {c:Int} {j:Nat} {x:QL},ls[j]?=some x->(x.cls == c)=true->(∀ i y,i<j->ls[i]?=some y->(y.cls == c)=false)->xbo ls c=ls.set j ⟨x.cls,wrap64 (x.found+1)⟩
 | [],c,j,x,h,_,_=>by simp at h
 | y :: r,c,0,x,h,hp,_=>by
  simp at h;subst h
  simp[xbo,hp]
 | y :: r,c,j+1,x,h,hp,hn=>by
  have hy:=hn 0 y (by omega) rfl
  simp only[xbo,hy,List.set_cons_succ];rw[xfY (ls:=r) (j:=j) (x:=x) (by simpa using h) hp (fun i z hi hz=>hn (i+1) z (by omega) (by simpa using hz))]
  rfl
theorem xb2 {α:Type}(p:α->Bool)(xs:List α):xbt p xs=-1\/∃ (j:Nat) (x:α),xbt p xs=(j:Int)/\xs[j]?=some x/\p x=true/\∀ i y,i<j->xs[i]?=some y->p y=false:=by
 unfold xbt
 cases h:xs.findIdx? p with
 | none=>left;rfl
 | some j=>
  right
  rw[List.findIdx?_eq_some_iff_getElem] at h;obtain⟨hj,hp,hn⟩:=h;refine⟨j,xs[j],rfl,by simp[hj],hp,fun i y hi hy=>?_⟩
  have:=hn i hi;rw[List.getElem?_eq_getElem (by omega)] at hy
  cases hy
  simpa using this
theorem OwnSt.one {w:World}{g:Nat}{ls:List QL}(h:OwnSt xda 2 72 w g ls ls.length){j:Nat}{x:QL}(hx:ls[j]?=some x):w.cell? ⟨g,j*2+0,none⟩=some (.int .i64 x.cls)/\w.cell? ⟨g,j*2+1,none⟩=some (.int .i64 x.found):=h.2 j x (xae hx) hx
theorem OwnSt.unfrozen {w:World}{g:Nat}{α:Type}{E:Lay α}{sz:Nat}{t:TypeId}{ls:List α}{j:Nat}(h:OwnSt E sz t w g ls j):∀ o,w.frozen? ⟨g,o,none⟩=false:=fun o=>by
 obtain⟨⟨cur,h1,-⟩,-⟩:=h
 simp[World.frozen?,h1]
theorem OwnSt.bump {w:World}{g:Nat}{ls:List QL}(h:OwnSt xda 2 72 w g ls ls.length){j:Nat}{x:QL}(hx:ls[j]?=some x)(n:Int):OwnSt xda 2 72 (w.setCell ⟨g,j*2+1,none⟩ (.int .i64 n)) g (ls.set j ⟨x.cls,n⟩) ls.length:=by
 obtain⟨⟨cur,h1,h2⟩,h3⟩:=h;have hj:=xae hx;refine⟨⟨_,xad h1 _,by simpa using h2⟩,fun i y hi hy=>?_⟩
 have hself:(w.setCell ⟨g,j*2+1,none⟩ (.int .i64 n)).cell? ⟨g,j*2+1,none⟩=some (.int .i64 n):=xcn (v:=.int .i64 x.found) (h3 j x hj hx).2 _;have hoth:∀ o,o≠j*2+1->(w.setCell ⟨g,j*2+1,none⟩ (.int .i64 n)).cell? ⟨g,o,none⟩=w.cell? ⟨g,o,none⟩:=fun o ho=>qzM _ _ _ _ (by intro e;injection e with _ e2 _;omega)
 by_cases hij:i=j
 ·subst hij;rw[List.getElem?_set_self hj] at hy
  cases hy
  exact⟨by show World.cell? _ ⟨g,i*2+0,none⟩=_;rw[hoth _ (by omega)];exact (h3 i x hj hx).1,hself⟩
 ·rw[List.getElem?_set_ne (by omega)] at hy
  exact⟨by show World.cell? _ ⟨g,i*2+0,none⟩=_;rw[hoth _ (by omega)];exact (h3 i y hi hy).1,by show World.cell? _ ⟨g,i*2+1,none⟩=_;rw[hoth _ (by omega)];exact (h3 i y hi hy).2⟩
def OneLeft (w:World)(g:Option Nat)(ls:List QL)(e:Ending)(w':World):Prop:=
 ∃ g' cap',e=.returned (.slice (some ⟨g',0,none⟩) ls.length cap')/\xbI (fun b=>b=g') w' (.slice (some ⟨g',0,none⟩) ls.length cap') ls/\(some g'=g\/w.heap.size<=g')/\g'<w'.heap.size/\(∀ b,b<w.heap.size->some b≠g->w'.heap[b]?=w.heap[b]?)/\w'.os=w.os/\w'.tape=w.tape/\w'.output=w.output/\w.heap.size<=w'.heap.size
theorem xip (ls:List QL)(g:Nat)(c:Int)(w:World)(h:OwnSt xda 2 72 w g ls ls.length)(hb:(ls.length+1)*16<=190000000000000):Calls Tryz.prog 66 #[.slice (some ⟨g,0,none⟩) ls.length ls.length,.int .i64 c] w fun e w'=>OneLeft w (some g) (xbo ls c) e w':=by
 have hm:=hmf;have hml:ls.length<=maxLen:=by unfold maxLen;omega
 have hgl:g<w.heap.size:=by obtain⟨⟨cur,h1,-⟩,-⟩:=h;exact xaf h1
 rcases xb2 (fun x:QL=>x.cls == c) ls with hf | ⟨j,x,hf,hx,hp,hn⟩
 ·have HO:Hid (xbo ls c=ls++[⟨c,1⟩]):=xez hf;have hb0:=xaj w (.cells #[.int .i64 c] 3);have h1:=h.later xbq hb0;have hr1:=h1.isLines hml (P:=fun b=>b=g) rfl
  have hcc:(w.alloc (.cells #[.int .i64 c] 3)).cell? ⟨w.heap.size,0,none⟩=some (.int .i64 c):=by rw[xaa _ _ _ _ rfl];rfl
  go_enter Tryz.func66,Tryz.ntmps66;go_wp2_with fail;refine (xdF _ (fun x=>x.cls == c) ls _ _ hr1 fun x w' hb'=>xdj x _ c w' (qzA hb' hcc)).mono ?_
  rintro e w1 ⟨rfl,hb1⟩;rw[hf];have h2:=h1.later xbq hb1;have hr2:=h2.isLines hml (P:=fun b=>b=g) rfl
  have hc1:=qzA hb1 hcc;have hb01:Below w.heap.size w w1:=xbz (qzL _ _) hb1;clear hb1 hb0 h1 hr1 hcc hm
  go_wp2_with (at_builtin;refine xbp (R:=fun b=>b=g) xbq rfl (.tmp 11) (.tmp 14) 68 rfl 72 _ 16 Tryz.underlying68 xi4 rfl ls _ rfl (hr2.later xbq (xaj _ _)) _ 72 [.int .i64 c,.int .i64 1] rfl (qzJ _ _) rfl ⟨c,1⟩ (P':=fun b=>b=g) ⟨rfl,rfl⟩ (fun h=>by cases h) (by unfold maxLen;omega) ⟨hb,by decide⟩ (fun _ h=>h) (fun _ h=>h) ?_;intro g' cap' w2 hrow2 hg2 hgl2 hb2 hblk2)
  go_ret
  have hbel:Below w.heap.size w w2:=xbz hb01 hb2;rw[HO.out];refine⟨g',cap',by simp,?_,Or.inr ?_,hgl2,fun b hb _=>hbel.block b hb,hbel.os,hbel.tape,hbel.output,hbel.size⟩
  ·obtain⟨cur,q1,q2,q3,q4,q5,-⟩:=hblk2;have:=Cells.row (E:=xda) (sz:=2) (bytes:=0) (P:=fun b=>b=g') (xs:=ls++[⟨c,1⟩]) (g:=g') (cap:=cap') ⟨q5.1,q5.2⟩ xbq rfl q1 (by simp) (by simpa using q3) q4 (by simp)
   simpa using this
  ·have:=hb01.size;simp at hg2;omega
 ·have HO:Hid (xbo ls c=ls.set j ⟨x.cls,wrap64 (x.found+1)⟩):=xfY hx hp hn;have hj:=xae hx;have hj0:(0:Int)<=(j:Int):=by omega
  have hj1:(j:Int)<(ls.length:Int):=by omega
  have HX:Hid (ls[j]?=some x):=hx;have hb0:=xaj w (.cells #[.int .i64 c] 3);have h1:=h.later xbq hb0;have hr1:=h1.isLines hml (P:=fun b=>b=g) rfl
  have hcc:(w.alloc (.cells #[.int .i64 c] 3)).cell? ⟨w.heap.size,0,none⟩=some (.int .i64 c):=by rw[xaa _ _ _ _ rfl];rfl
  go_enter Tryz.func66,Tryz.ntmps66;go_wp2_with fail;refine (xdF _ (fun x=>x.cls == c) ls _ _ hr1 fun x w' hb'=>xdj x _ c w' (qzA hb' hcc)).mono ?_
  rintro e w1 ⟨rfl,hb1⟩;rw[hf];have h2:=h1.later xbq hb1;have hc1:=qzA hb1 hcc;have hb01:Below w.heap.size w w1:=xbz (qzL _ _) hb1;obtain⟨k0,k1⟩:=h2.one HX.out;have fz:=h2.unfrozen;clear hb1 hb0 h1 hr1 hcc hm hn hx hf;go_wp2_with fail
  go_ret
  rw[HO.out];have h3:=h2.bump HX.out (wrap64 (x.found+1));refine⟨g,ls.length,by simp,?_,Or.inl rfl,by simp;have:=hb01.size;omega,fun b hb hne=>?_,?_,?_,?_,?_⟩
  ·have:=OwnSt.isLines (ls:=ls.set j ⟨x.cls,wrap64 (x.found+1)⟩) (by simpa using h3) (by simpa using hml) (P:=fun b=>b=g) rfl
   simpa using this
  ·rw[xab (by intro e;exact hne (by rw[e]))];exact hb01.block b hb
  ·exact hb01.os
  ·exact hb01.tape
  ·exact hb01.output
  ·simpa using hb01.size
theorem xh3 (c:Int)(w:World):Calls Tryz.prog 66 #[.slice none 0 0,.int .i64 c] w fun e w'=>OneLeft w none [⟨c,1⟩] e w':=by
 have hm:=hmf;have hb0:=xaj w (.cells #[.int .i64 c] 3);have hr1:xbI (fun _=>False) (w.alloc (.cells #[.int .i64 c] 3)) (.slice none 0 0) []:=⟨none,0,rfl,by simp,by simp,by simp,fun i x hx=>by simp at hx⟩
 have hcc:(w.alloc (.cells #[.int .i64 c] 3)).cell? ⟨w.heap.size,0,none⟩=some (.int .i64 c):=by rw[xaa _ _ _ _ rfl];rfl
 have hf:xbt (fun x:QL=>x.cls == c) []=-1:=rfl
 go_enter Tryz.func66,Tryz.ntmps66;go_wp2_with fail;refine (xdF _ (fun x=>x.cls == c) [] _ _ hr1 fun x w' hb'=>xdj x _ c w' (qzA hb' hcc)).mono ?_
 rintro e w1 ⟨rfl,hb1⟩;rw[hf];have hr2:=hr1.later xbq hb1;have hc1:=qzA hb1 hcc;have hb01:Below w.heap.size w w1:=xbz (qzL _ _) hb1;clear hb1 hb0 hr1 hcc hm
 go_wp2_with (at_builtin;refine xbp (R:=fun b=>False) xbq rfl (.tmp 11) (.tmp 14) 68 rfl 72 _ 16 Tryz.underlying68 xi4 rfl [] _ rfl (hr2.later xbq (xaj _ _)) _ 72 [.int .i64 c,.int .i64 1] rfl (qzJ _ _) rfl ⟨c,1⟩ (P':=fun b=>False) ⟨rfl,rfl⟩ (fun h=>rfl) (by unfold maxLen;simp) (by simp) (fun _ h=>h) (fun _ h=>h) ?_;intro g' cap' w2 hrow2 hg2 hgl2 hb2 hblk2)
 go_ret
 have hbel:Below w.heap.size w w2:=xbz hb01 hb2;refine⟨g',cap',by simp,?_,Or.inr ?_,hgl2,fun b hb _=>hbel.block b hb,hbel.os,hbel.tape,hbel.output,hbel.size⟩
 ·obtain⟨cur,q1,q2,q3,q4,q5,-⟩:=hblk2
  exact Cells.row (E:=xda) (sz:=2) (bytes:=0) (P:=fun b=>b=g') (xs:=[⟨c,1⟩]) (g:=g') (cap:=cap') ⟨q5.1,q5.2⟩ xbq rfl q1 rfl (by simpa using q3) q4 (by simp)
 ·have:=hb01.size;simp at hg2;omega
def xc1:List QT->QS->Int->List QT
 | [],s,c=>[⟨s,[⟨c,1⟩]⟩]
 | x :: r,s,c=>if eqS x.site s then ⟨x.site,xbo x.lz c⟩ :: r else x :: xc1 r s c
theorem xgH:∀ {xs:List QT} {s:QS} {c:Int},xbt (fun x=>eqS x.site s) xs=-1->xc1 xs s c=xs++[⟨s,[⟨c,1⟩]⟩]
 | [],s,c,_=>rfl
 | x :: r,s,c,h=>by
  have hx:eqS x.site s=false:=by
   cases hb:eqS x.site s with
   | false=>rfl
   | true=>rw[xb4 (j:=0) (x:=x) rfl hb (fun i y hi _=>by omega)] at h;simp at h
  have hr:xbt (fun x:QT=>eqS x.site s) r=-1:=by
   unfold xbt at h ⊢;rw[List.findIdx?_cons,hx] at h
   cases hf:r.findIdx? (fun x=>eqS x.site s) with
   | none=>rfl
   | some k=>rw[hf] at h;simp at h;omega
  simp[xc1,hx,xgH hr]
theorem xli:∀ {xs:List QT} {s:QS} {c:Int} {j:Nat} {x:QT},xs[j]?=some x->eqS x.site s=true->(∀ i y,i<j->xs[i]?=some y->eqS y.site s=false)->xc1 xs s c=xs.set j ⟨x.site,xbo x.lz c⟩
 | [],s,c,j,x,h,_,_=>by simp at h
 | y :: r,s,c,0,x,h,hp,_=>by
  simp at h;subst h
  simp[xc1,hp]
 | y :: r,s,c,j+1,x,h,hp,hn=>by
  have hy:=hn 0 y (by omega) rfl
  simp only[xc1,hy,List.set_cons_succ];rw[xli (xs:=r) (j:=j) (x:=x) (by simpa using h) hp (fun i z hi hz=>hn (i+1) z (by omega) (by simpa using hz))]
  rfl
theorem xhz {w:World}{g j cap:Nat}{xs:List QT}{x:QT}{v':Value}{ls':List QL}{Q S:Nat->Prop}(hx:xs[j]?=some x)
  (hoth:∀ i y,i≠j->xs[i]?=some y->∃ R:Nat->Prop,¬ R g/\(∀ b,R b->S b)/\xf7 R w (fun k=>w.cell? ⟨g,i*4+k,none⟩) y)
  (h0:w.cell? ⟨g,j*4+0,none⟩=some (.int .i64 x.site.cls)) (h1:w.cell? ⟨g,j*4+1,none⟩=some (.string x.site.name)) (h2:w.cell? ⟨g,j*4+2,none⟩=some (.int .i64 x.site.at')) {u:Value} (h3:w.cell? ⟨g,j*4+3,none⟩=some u)
  (hl:xbI Q w v' ls') (hQ:¬ Q g) (hQS:∀ b,Q b->S b) (hSg:S g) (hc1:xs.length<=cap) (hc2:cap<=maxLen):xbc S (w.setCell ⟨g,j*4+3,none⟩ v') (.slice (some ⟨g,0,none⟩) xs.length cap) (xs.set j ⟨x.site,ls'⟩):=by
 have hself:=xcn h3 v';have hne:∀ o,o≠j*4+3->(w.setCell ⟨g,j*4+3,none⟩ v').cell? ⟨g,o,none⟩=w.cell? ⟨g,o,none⟩:=fun o ho=>qzM _ _ _ _ (by intro e;injection e with _ e2 _;omega)
 refine⟨some ⟨g,0,none⟩,cap,by simp,by simpa using hc1,hc2,by simp,fun i y hy=>⟨g,0,rfl,hSg,?_⟩⟩
 by_cases hij:i=j
 ·subst hij;rw[List.getElem?_set_self (xae hx)] at hy
  cases hy
  simp only[Nat.zero_add];refine⟨(hne (i*4+0) (by omega)).trans h0,(hne (i*4+1) (by omega)).trans h1,(hne (i*4+2) (by omega)).trans h2,v',hself,?_⟩
  exact hl.keep xbq (Keeps.of_setCell hQ _) hQS
 ·rw[List.getElem?_set_ne (by omega)] at hy
  obtain⟨R,hR,hRS,hT⟩:=hoth i y hij hy;simp only[Nat.zero_add];refine xbZ.move hT hRS (Keeps.of_setCell hR _) fun k hk v hv=>?_
  rw[hne _ (by omega)]
  exact hv
theorem OneLeft.cell {w w':World}{g:Option Nat}{ls:List QL}{e:Ending}(h:OneLeft w g ls e w'){b o:Nat}{v:Value}(hc:w.cell? ⟨b,o,none⟩=some v)(hb:some b≠g):w'.cell? ⟨b,o,none⟩=some v:=by
 obtain⟨-,-,-,-,-,-,h1,-⟩:=h;have hl:=World.block_lt_of_cell? _ _ hc;rw[World.cell?_of_block (h1 b hl hb)]
 exact hc
theorem OneLeft.frozen {w w':World}{g:Option Nat}{ls:List QL}{e:Ending}(h:OneLeft w g ls e w'){b:Nat}(hl:b<w.heap.size)(hb:some b≠g):∀ o,w'.frozen? ⟨b,o,none⟩=w.frozen? ⟨b,o,none⟩:=fun o=>by
 obtain⟨-,-,-,-,-,-,h1,-⟩:=h
 exact World.frozen?_of_block (h1 b hl hb)
theorem OneLeft.below {w w':World}{g:Option Nat}{ls:List QL}{e:Ending}(h:OneLeft w g ls e w'){B:Nat}(hB:B<=w.heap.size)(hg:∀ b,g=some b->B<=b):Below B w w':=by
 obtain⟨-,-,-,-,-,-,h1,h2,h3,h4,h5⟩:=h
 exact⟨h2,h3,h4,h5,fun k hk=>h1 k (by omega) fun e=>by have:=hg k e.symm;omega⟩
theorem xnC {P:Nat->Prop}(xs:List QT)(v:Value)(s:QS)(c:Int)(w:World)(hh:xbc P w v xs)(hby:(xs.length+1)*56<=190000000000000)(hls:∀ x∈xs,(x.lz.length+1)*16<=190000000000000) :
  Calls Tryz.prog 47 #[v,SV s,.int .i64 c] w fun e w'=>∃ g cap,e=.returned (.slice (some ⟨g,0,none⟩) (xc1 xs s c).length cap)/\xbc (fun b=>w.heap.size<=b) w' (.slice (some ⟨g,0,none⟩) (xc1 xs s c).length cap) (xc1 xs s c)/\Below w.heap.size w w':=by
 have hm:=hmf;have hml:xs.length<=maxLen:=by unfold maxLen;omega
 have hmll:∀ x∈xs,x.lz.length<=maxLen:=fun x hx=>by have:=hls x hx;unfold maxLen;omega
 obtain⟨ad,cap,rfl,-,-,-,-⟩:=id hh;have hb0:=xaj w (.cells #[.int .i64 s.cls,.string s.name,.int .i64 s.at'] 67);have hs0:=xeS w s 67;go_enter Tryz.func47,Tryz.ntmps47;go_wp2_with fail;refine (xgF xs _ _ (hh.later xbZ hb0) (by omega) (fun x hx=>by have:=hls x hx;omega)).mono ?_
 rintro e w1 ⟨g,gs,rfl,hown,hg,hb1⟩;have hs1:=hs0.later hb1;have hb01:Below w.heap.size w w1:=xbz (qzL _ _) hb1;have hg0:w.heap.size<g:=by simp at hg;omega
 clear hb1 hb0 hs0 hg hh;go_wp2_with fail;refine (xih _ (fun x=>eqS x.site s) xs _ _ (hown.tallies hml hmll (P:=fun b=>g<=b) fun b h _=>h) fun x a n k w' hb'=>xis x a n k _ s w' (hs1.later hb')).mono ?_
 rintro e w2 ⟨rfl,hb2⟩;replace hown:=hown.later hb2;replace hs1:=hs1.later hb2;have hb02:Below w.heap.size w w2:=xah hb01 hb2;clear hb2 hb01 hm
 rcases xb2 (fun x:QT=>eqS x.site s) xs with hf | ⟨j,x,hf,hx,hp,hn⟩
 ·have HO:Hid (xc1 xs s c=xs++[⟨s,[⟨c,1⟩]⟩]):=xgH hf;rw[hf];obtain⟨s0,s1,s2⟩:=hs1;have hrow:=hown.tallies hml hmll (P:=fun b=>g<=b/\b<w2.heap.size) fun b h h'=>⟨h,h'⟩
  go_wp2_with (at_builtin;refine xbp (R:=fun b=>g<=b/\b<w2.heap.size) xbZ rfl (.tmp 18) (.tmp 21) 32 rfl 97 _ 56 Tryz.underlying32 xmI rfl xs _ rfl (hrow.later xbZ (xaj _ _)) _ 97 [.int .i64 s.cls,.string s.name,.int .i64 s.at',.slice none 0 0] rfl (qzJ _ _) rfl ⟨s,[]⟩ (P':=fun b=>False) ⟨rfl,rfl,rfl,_,rfl,none,0,rfl,by simp,by simp,by simp,fun i x hx=>by simp at hx⟩ (fun h=>by cases h) (by unfold maxLen;omega) ⟨hby,by decide⟩ (fun _ h=>h) (fun _ h=>h.elim) ?_;intro g' cap' w3 hrow3 hg3 hgl3 hb3 hblk3;obtain⟨cur3,q1,q2,q3,q4,q5,q6⟩:=hblk3;have k3:=q6 3 _ rfl;have fz3:∀ o,w3.frozen? ⟨g',o,none⟩=false:=(fun o=>by simp[World.frozen?,q1]);have hn1:(xs.length:Int)<(xs.length:Int)+1:=(by omega);have hn0:(0:Int)<=(xs.length:Int):=(by omega);clear hrow3)
  refine (xh3 c w3).mono ?_;rintro e w4 hleft;have hg3':w2.heap.size+1<=g':=by simpa using hg3
  have hz2:=hb02.size;have HB34:Hid (Below w3.heap.size w3 w4):=hleft.below (qzC _) (fun b h=>by cases h)
  have hb3':Below w.heap.size w w3:=xbz hb02 hb3;obtain⟨r0,r1,r2⟩:w4.cell? ⟨g',xs.length*4+0,none⟩=some (.int .i64 s.cls)/\w4.cell? ⟨g',xs.length*4+1,none⟩=some (.string s.name)/\w4.cell? ⟨g',xs.length*4+2,none⟩=some (.int .i64 s.at'):=⟨qzA HB34.out (q6 0 _ rfl),qzA HB34.out (q6 1 _ rfl),qzA HB34.out (q6 2 _ rfl)⟩;have r3:=qzA HB34.out k3;have f4:∀ o,w4.frozen? ⟨g',o,none⟩=false:=fun o=>(hleft.frozen hgl3 (by simp) o).trans (fz3 o)
  obtain⟨g4,cap4,rfl,hL4,hor4,hgl4,-⟩:=hleft;have hor4':w3.heap.size<=g4:=hor4.resolve_left (by simp)
  have HOTH:Hid (∀ i y,i≠xs.length->(xs++[(⟨s,[]⟩:QT)])[i]?=some y->∃ R:Nat->Prop,¬ R g'/\(∀ b,R b->w.heap.size<=b)/\xf7 R w4 (fun k=>w4.cell? ⟨g',i*4+k,none⟩) y):=fun i y hi hy=>by
   refine⟨fun b=>g<=b/\b<w2.heap.size,fun h=>by omega,fun b h=>by omega,?_⟩
   refine xbZ.move (q5.2 i y hy) (fun _ h=>h) (.of_below HB34.out) fun k hk v hv=>?_
   rw[List.getElem?_take] at hv
   split at hv
   ·refine qzA HB34.out ?_;rw[qzB q1]
    simpa using hv
   ·cases hv
  clear hb3 k3 fz3 q6 q5 hrow hf hgl3;go_wp2_with fail
  go_ret
  rw[HO.out];refine⟨g',cap',by simp,?_,(hb3'.trans (HB34.out.mono hb3'.size)).setCell (by simp;omega) _⟩
  have:=xhz (g:=g') (j:=xs.length) (cap:=cap') (xs:=xs++[⟨s,[]⟩]) (x:=⟨s,[]⟩) (S:=fun b=>w.heap.size<=b) (by simp) HOTH.out r0 r1 r2 r3 hL4 (by intro h;have:=xaf q1;omega) (fun b h=>by have:=hb3'.size;omega) (by omega) (by simpa using q3) q4
  simpa using this
 ·have HO:Hid (xc1 xs s c=xs.set j ⟨x.site,xbo x.lz c⟩):=xli hx hp hn;have hj:=xae hx;have hj0:(0:Int)<=(j:Int):=by omega
  have hj1:(j:Int)<(xs.length:Int):=by omega
  have hlx:=hls x (List.mem_of_getElem? hx);have HX:Hid (xs[j]?=some x):=hx;rw[hf];obtain⟨k0,k1,k2,k3⟩:=hown.cells j x hj hx;have hol:=hown.lz j x hj hx;have hrj:=hown.reach j hj
  have fz2:∀ o,w2.frozen? ⟨g,o,none⟩=false:=by
   obtain⟨cur,h1,-⟩:=hown.row;intro o;simp[World.frozen?,h1]
  clear hf hn hx hs1;go_wp2_with fail;refine (xip x.lz (gs j) c w2 hol hlx).mono ?_;rintro e w3 hleft;have hz2:=hb02.size;have HB23:Hid (Below (gs j) w2 w3):=hleft.below (by omega) (fun b h=>by cases h;exact qzC _)
  have hne:some g≠some (gs j):=by simp;omega
  obtain⟨r0,r1,r2,r3⟩:w3.cell? ⟨g,j*4+0,none⟩=some (.int .i64 x.site.cls)/\w3.cell? ⟨g,j*4+1,none⟩=some (.string x.site.name)/\w3.cell? ⟨g,j*4+2,none⟩=some (.int .i64 x.site.at')/\w3.cell? ⟨g,j*4+3,none⟩=some (.slice (some ⟨gs j,0,none⟩) x.lz.length x.lz.length):=⟨hleft.cell k0 hne,hleft.cell k1 hne,hleft.cell k2 hne,hleft.cell k3 hne⟩;have f3:∀ o,w3.frozen? ⟨g,o,none⟩=false:=fun o=>(hleft.frozen (by omega) hne o).trans (fz2 o)
  have HOTH:Hid (∀ i y,i≠j->xs[i]?=some y->∃ R:Nat->Prop,¬ R g/\(∀ b,R b->w.heap.size<=b)/\xf7 R w3 (fun k=>w3.cell? ⟨g,i*4+k,none⟩) y):=fun i y hi hy=>by
   have hil:=xae hy;have hri:=hown.reach i hil
   have hdi:gs i≠gs j:=by
    rcases Nat.lt_or_ge i j with h | h
    ·have:=hown.rise i j h hj;omega
    ·have:=hown.rise j i (by omega) hil;omega
   obtain⟨c0,c1,c2,c3⟩:=hown.cells i y hil hy;refine⟨fun b=>b=gs i,fun h=>by omega,fun b h=>by omega,hleft.cell c0 hne,hleft.cell c1 hne,hleft.cell c2 hne,_,hleft.cell c3 hne,?_⟩
   refine ((hown.lz i y hil hy).isLines (hmll y (List.mem_of_getElem? hy)) (P:=fun b=>b=gs i) rfl).keep xbq (fun b o v hb hc=>?_) fun _ h=>h
   exact hleft.cell hc (by subst hb;simp;omega)
  obtain⟨g4,cap4,rfl,hL4,hor4,hgl4,-⟩:=hleft;clear k0 k1 k2 k3 fz2 hol hown;go_wp2_with fail
  go_ret
  rw[HO.out];refine⟨g,xs.length,by simp,?_,(hb02.trans (HB23.out.mono (by omega))).setCell (by simp;omega) _⟩
  have hg4:g<g4:=by
   rcases hor4 with h | h
   ·cases h;omega
   ·omega
  have:=xhz (g:=g) (j:=j) (cap:=xs.length) (xs:=xs) (x:=x) (S:=fun b=>w.heap.size<=b) HX.out HOTH.out r0 r1 r2 r3 hL4 (by omega) (fun b h=>by omega) (by omega) (qzC _) hml
  simpa using this
end Go.Proofs.YtapbeiccodnniaaGreat
