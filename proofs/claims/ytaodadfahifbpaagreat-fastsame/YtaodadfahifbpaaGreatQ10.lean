/- A part. -/
import Derived.Test.YtaodadfahifbpaaGreatQ9
namespace Go.Proofs.YtaodadfahifbpaaGreat
open Go.ChangeShapes Go.WideShapes Go.ChangeAt Go.RowKit
set_option linter.unusedSimpArgs false
set_option linter.unusedVariables false
set_option maxHeartbeats 8000000
set_option maxRecDepth 8000
theorem xis {P:Nat->Prop}(xs:List QV)(v:Value)(w:World)(hh:xaO P w v xs):Calls Tryz.prog 75 #[v] w fun e w'=>∃ g,e=.returned (.slice (some ⟨g,0,none⟩) xs.length xs.length)/\w'.heap[g]?=some (.cells (xam xs).toArray 27 (0,0))/\w.heap.size<=g/\Below w.heap.size w w':=by
 obtain⟨ad,cap,rfl,hl,hcap,hby,hrow⟩:=hh;have hmk:=xcH xs.length hby;obtain⟨cs,hcs,hsrc⟩:=hrow.cells xa1
 obtain⟨w1,hcp,h2,h3⟩:=xeb (P:=Tryz.prog) (w.alloc (.cells (madeCells #[.int .i64 0,.int .i64 0] (xs.length*2)) 27)) 28 28 3 27 2 w.heap.size xs.length xs.length ad cap (madeCells #[.int .i64 0,.int .i64 0] (xs.length*2)) 27 cs Tryz.underlying28 xpW (qzJ w _) hcs.1
  (fun j v hj=>by obtain⟨a,e,h⟩:=hsrc j v hj;exact⟨a,e,qzA (xak _ _) h⟩) (size_madeCells _ _) (hcs.all xa1)
 have HB:=h3 w.heap.size w (xak _ _) (qzC _);have HV:Hid (w1.heap[w.heap.size]?=some (.cells (xam xs).toArray 27 (0,0))):=by show _=_;rw[← xcy (E:=()) hcs];exact h2
 clear h2 h3 hrow hcs hsrc;go_enter Tryz.func75,Tryz.ntmps75;go_wp2
 go_ret
 exact⟨_,rfl,HV.out,qzC _,HB⟩
structure HRow (w:World)(B:Nat)(s:Nat->Nat)(xs:List QO)(j:Nat):Prop where
 row:∃ cur:Array Value,w.heap[B]?=some (.cells cur 61 (0,0))/\cur.size=xs.length*2
 obj:∀ i x,i<j->xs[i]?=some x->w.cell? ⟨B,i*2,none⟩=some (.int .i64 x.cls)/\w.cell? ⟨B,i*2+1,none⟩=some (.slice (some ⟨s i,0,none⟩) x.slots.length x.slots.length)/\w.heap[s i]?=some (.cells (xam x.slots).toArray 27 (0,0))/\B<s i/\x.slots.length*16<=140737488351232
 inc:∀ i k,i<k->k<j->s i<s k
 lt:∀ i,i<j->s i<w.heap.size
theorem HRow.later {w w':World}{B:Nat}{s:Nat->Nat}{xs:List QO}{j:Nat}(h:HRow w B s xs j)(hb:Below w.heap.size w w'):HRow w' B s xs j:=by
 obtain⟨⟨cur,h1,h2⟩,h3,h4,h5⟩:=h;refine⟨⟨cur,by rw[hb.block _ (xal h1)];exact h1,h2⟩,fun i x hi hx=>?_,h4,fun i hi=>qzE (h5 i hi) hb.size⟩
 obtain⟨e1,e2,e3,e4,e5⟩:=h3 i x hi hx
 exact⟨qzA hb e1,qzA hb e2,by rw[hb.block _ (xal e3)];exact e3,e4,e5⟩
theorem HRow.start {w:World}(s:Nat->Nat)(xs:List QO)(c:Array Value)(hc:c.size=xs.length*2):HRow (w.alloc (.cells c 61)) w.heap.size s xs 0:=
 ⟨⟨c,qzJ w _,hc⟩,fun i x hi _=>by omega,fun i k _ hk=>by omega,fun i hi=>by omega⟩
theorem HRow.step {w:World}{B:Nat}{s:Nat->Nat}{xs:List QO}{j g:Nat}{x:QO}(h:HRow w B s xs j)(hx:xs[j]?=some x)(hg:w.heap[g]?=some (.cells (xam x.slots).toArray 27 (0,0)))(hB:B<g)(hs:∀ i,i<j->s i<g)(hby:x.slots.length*16<=140737488351232) :
  HRow (w.setCells B (j*2) [.int .i64 x.cls,.slice (some ⟨g,0,none⟩) x.slots.length x.slots.length]) B (fun i=>if i=j then g else s i) xs (j+1):=by
 obtain⟨⟨cur,h1,h2⟩,h3,h4,h5⟩:=h;have hj:=xae hx;refine⟨xcm _ _ w ⟨cur,h1,h2⟩,fun i y hi hy=>?_,fun i k hi hk=>?_,fun i hi=>?_⟩
 ·by_cases hij:i=j
  ·subst hij;rw[hx] at hy
   cases hy
   have hc:=fun k (hk:k<2)=>World.cell?_setCells_in B [.int .i64 x.cls,.slice (some ⟨g,0,none⟩) x.slots.length x.slots.length] (i*2) w (fun q hq=>by rw[qzB h1];simp at hq ⊢;omega) k hk
   simp only[if_true]
   exact⟨hc 0 (by omega),hc 1 (by omega),by rw[xa0 (by omega)];exact hg,hB,hby⟩
  ·obtain⟨e1,e2,e3,e4,e5⟩:=h3 i y (by omega) hy
   have ho:=fun k (hk:k<2)=>World.cell?_setCells_out B [.int .i64 x.cls,.slice (some ⟨g,0,none⟩) x.slots.length x.slots.length] (j*2) w ⟨B,i*2+k,none⟩ (fun _ _=>Or.inl (by simp;omega))
   simp only[hij,if_false]
   exact⟨(ho 0 (by omega)).trans e1,(ho 1 (by omega)).trans e2,by rw[xa0 (by omega)];exact e3,e4,e5⟩
 ·by_cases hkj:k=j
  ·simp only[hkj,if_true,show i≠j by omega,if_false];exact hs i (by omega)
  ·simp only[hkj,if_false,show i≠j by omega];exact h4 i k hi (by omega)
 ·rw[xbJ]
  by_cases hij:i=j
  ·simp only[hij,if_true];exact xal hg
  ·simp only[hij,if_false];exact h5 i (by omega)
theorem HRow.setLow {w:World}{B d:Nat}{s:Nat->Nat}{xs:List QO}{j:Nat}(h:HRow w B s xs j)(hd:d<B)(o:Nat)(v:Value):HRow (w.setCell ⟨d,o,none⟩ v) B s xs j:=by
 obtain⟨⟨cur,h1,h2⟩,h3,h4,h5⟩:=h;refine⟨⟨cur,by rw[xac (by omega)];exact h1,h2⟩,fun i x hi hx=>?_,h4,fun i hi=>by rw[xa6];exact h5 i hi⟩
 obtain⟨e1,e2,e3,e4,e5⟩:=h3 i x hi hx;have k:=fun (o':Nat)=>qzI w ⟨d,o,none⟩ ⟨B,o',none⟩ v (by simp;omega)
 exact⟨(k _).trans e1,(k _).trans e2,by rw[xac (by omega)];exact e3,e4,e5⟩
theorem HRow.heap {w:World}{g:Nat}{s:Nat->Nat}{xs:List QO}(h:HRow w g s xs xs.length)(hby:xs.length*32<=140737488351232){T:Nat->Nat}(hT:∀ b,g<=b->b<w.heap.size->T b=2):HeapSt T w (.slice (some ⟨g,0,none⟩) xs.length xs.length) g s xs:=by
 obtain⟨⟨cur,h1,h2⟩,h3,h4,h5⟩:=h;refine⟨⟨_,rfl,qzC _,by unfold maxLen;omega⟩,hby,xal h1,hT g (qzC _) (xal h1),fun i x hx=>?_,fun i j hi hj e=>?_⟩
 ·obtain⟨e1,e2,e3,e4,e5⟩:=h3 i x (xae hx) hx
  exact⟨e1,e2,e3,hT _ (by omega) (xal e3),by omega,e5⟩
 ·rcases Nat.lt_trichotomy i j with h | h | h
  ·have:=h4 i j h hj;omega
  ·exact h
  ·have:=h4 j i h hi;omega
theorem xkg {P:Nat->Prop}(hs:List QO)(v:Value)(w:World)(hh:xaD P w v hs):Calls Tryz.prog 57 #[v] w fun e w'=>∃ g s,e=.returned (.slice (some ⟨g,0,none⟩) hs.length hs.length)/\HRow w' g s hs hs.length/\w.heap.size<=g/\Below w.heap.size w w':=by
 obtain⟨ad,cap,rfl,hl,hcap,hby,hrow⟩:=hh;have hmk:=xmn hs.length hby;go_enter Tryz.func57,Tryz.ntmps57;go_wp2
 go_loopg [11] hs.length (fun g c wr=>∃ j:Nat,j+g=hs.length/\c=.int .i64 j/\Below w.heap.size w wr/\(∃ s,HRow wr w.heap.size s hs j)/\w.heap.size<wr.heap.size)
 case atStart=>exact⟨0,by omega,rfl,xak _ _,⟨fun _=>0,HRow.start _ _ _ (size_madeCells _ _)⟩,by simp⟩
 case round=>
  obtain⟨j,hj,rfl,hbel,⟨s,hst⟩,hz⟩:=hrel;clear hmk
  by_cases hlt:j<hs.length
  ·obtain⟨b,o,rfl,-,hv1,sv,hv2,hsl⟩:=hrow j hs[j] (by simp[hlt])
   simp only[Nat.add_zero] at hv1;have hxj:Hid (hs[j]?=some hs[j]):=by show _=_;simp[hlt]
   generalize hs[j]=x at *;have u1:=qzA hbel hv1;have u2:=qzA hbel hv2;have hsl2:=hsl.later xa1 hbel;obtain⟨ad2,cap2,rfl,hl2,hcap2,hby2,hrow2⟩:=id hsl2;clear hv1 hv2 hsl hrow2;have hj1:(j:Int)<(hs.length:Int):=by omega
   have hj0:(0:Int)<=(j:Int):=by omega
   go_wp2;have hW1:Below wr.heap.size wr (wr.alloc (Obj.cells #[Value.int .i64 x.cls,Value.slice ad2 x.slots.length cap2] 61)).drew:=(xak _ _).drew;have hIV:=hsl2.later xa1 hW1;have hst1:=hst.later hW1;have hbel1:=hbel.trans (hW1.mono (by omega))
   have c1:(wr.alloc (Obj.cells #[Value.int .i64 x.cls,Value.slice ad2 x.slots.length cap2] 61)).drew.cell? ⟨wr.heap.size,0,none⟩=some (Value.int .i64 x.cls):=by simp
   have c2:(wr.alloc (Obj.cells #[Value.int .i64 x.cls,Value.slice ad2 x.slots.length cap2] 61)).drew.cell? ⟨wr.heap.size,1,none⟩=some (Value.slice ad2 x.slots.length cap2):=by simp
   have hzz:(wr.alloc (Obj.cells #[Value.int .i64 x.cls,Value.slice ad2 x.slots.length cap2] 61)).drew.heap.size=wr.heap.size+1:=by simp
   clear hsl2 u1 u2 hrow
   go_region_held3 (fun w'=>w'.cell? ⟨wr.heap.size,0,none⟩=some (Value.int .i64 x.cls)/\w'.cell? ⟨wr.heap.size,1,none⟩=some (Value.slice ad2 x.slots.length cap2)) (first | exact⟨c1,c2⟩ | exact⟨d1,d2⟩ | exact⟨(qzM _ _ _ _ (by first | (simp;done) | (simp;omega))).trans ((qzM _ _ _ _ (by first | (simp;done) | (simp;omega))).trans d1),(qzM _ _ _ _ (by first | (simp;done) | (simp;omega))).trans ((qzM _ _ _ _ (by first | (simp;done) | (simp;omega))).trans d2)⟩)
    (first | (go_at_call 75;refine (xis x.slots _ _ hIV).mono ?_;rintro e w1 ⟨g',rfl,hg2,hgl,hb1⟩;have hst2:=hst1.later hb1;obtain⟨cur,k1,k2⟩:=hst2.row;have f1:∀ o,w1.frozen? ⟨w.heap.size,o,none⟩=false:=fun o=>(by simp[World.frozen?,k1]);have d1:=qzA hb1 c1;have d2:=qzA hb1 c2;have e1:w1.cell? ⟨w.heap.size,j*2,none⟩=some (cur[j*2]'(by omega)):=(by rw[qzB k1];simp);have e2:w1.cell? ⟨w.heap.size,j*2+1,none⟩=some (cur[j*2+1]'(by omega)):=(by rw[qzB k1];simp)))
   go_wp2
   go_roundg (gk-1)
   case measure=>omega
   case rel=>
    have hlt1:w.heap.size<w1.heap.size:=qzE (by omega) hb1.size
    refine⟨j+1,by omega,by go_num,((hbel1.trans (hb1.mono (by omega))).setCell (qzC _) _).setCell (qzC _) _,?_,by simp;omega⟩
    have hg3:wr.heap.size+1<=g':=by rw[hzz] at hgl;exact hgl
    exact⟨_,hst2.step hxj.out hg2 (by omega) (fun i hi=>by have:=hst.lt i hi;omega) hby2⟩
  ·obtain rfl:j=hs.length:=by omega
   go_wp2
   go_ret
   exact⟨_,s,rfl,hst,qzC _,hbel⟩
theorem xqW {P:Nat->Prop}(X:QW)(cv hv:Value)(w:World)(h1:xai P w cv X.cz)(h2:xaD P w hv X.heap):Calls Tryz.prog 33 #[WV cv hv X.ez] w fun e w'=>∃ g gh s,e=.returned (WV (.slice (some ⟨g,0,none⟩) X.cz.length X.cz.length) (.slice (some ⟨gh,0,none⟩) X.heap.length X.heap.length) X.ez)/\OwnC w' g X.cz s X.cz.length/\
  (∃ sh,HRow w' gh sh X.heap X.heap.length)/\s X.cz.length<=gh/\w.heap.size<=g/\Below w.heap.size w w':=by
 obtain⟨ad,cap,rfl,hl,hcap,hby,hrow⟩:=h1;obtain⟨adh,caph,rfl,hlh,hcaph,hbyh,hrowh⟩:=id h2;have hmk:=xix X.cz.length hby;go_enter Tryz.func33,Tryz.ntmps33;go_wp2;have hW:=xfL w (Obj.cells #[Value.slice ad X.cz.length cap,Value.slice adh X.heap.length caph,Value.int .i64 X.ez] 25) (Obj.cells #[Value.slice none 0 0,Value.slice none 0 0,Value.int .i64 0] 25) (Obj.cells (madeCells #[Value.string { data:=#[] },Value.int .i64 0,Value.int .i64 0,Value.slice none 0 0] (X.cz.length*4)) 71);have hS0:=OwnC.start ((w.alloc (Obj.cells #[Value.slice ad X.cz.length cap,Value.slice adh X.heap.length caph,Value.int .i64 X.ez] 25)).alloc (Obj.cells #[Value.slice none 0 0,Value.slice none 0 0,Value.int .i64 0] 25)) X.cz (madeCells #[Value.string { data:=#[] },Value.int .i64 0,Value.int .i64 0,Value.slice none 0 0] (X.cz.length*4)) (size_madeCells _ _)
 rw[show ((w.alloc (Obj.cells #[Value.slice ad X.cz.length cap,Value.slice adh X.heap.length caph,Value.int .i64 X.ez] 25)).alloc (Obj.cells #[Value.slice none 0 0,Value.slice none 0 0,Value.int .i64 0] 25)).heap.size=w.heap.size+1+1 by simp] at hS0
 go_loopg [13] X.cz.length (fun g c wr=>∃ j:Nat,j+g=X.cz.length/\c=.int .i64 j/\Below (w.heap.size+1+1) ((w.alloc (Obj.cells #[Value.slice ad X.cz.length cap,Value.slice adh X.heap.length caph,Value.int .i64 X.ez] 25)).alloc (Obj.cells #[Value.slice none 0 0,Value.slice none 0 0,Value.int .i64 0] 25)) wr/\∃ s,OwnC wr (w.heap.size+1+1) X.cz s j)
 case atStart=>exact⟨0,by omega,rfl,(qzL _ _).alloc (by simp) _,_,hS0⟩
 case round=>
  obtain⟨j,hj,rfl,hbel,s,hst⟩:=hrel;clear hmk hS0;have hbw:Below w.heap.size w wr:=(xbP _ _ _).trans (hbel.mono (by omega))
  have hz:w.heap.size+1+1<wr.heap.size:=by obtain⟨⟨cur,k,-⟩,-⟩:=hst;exact xal k
  by_cases hlt:j<X.cz.length
  ·obtain⟨b,o,rfl,-,hv0,hv1,hv2,hsz,sv,hv4,hsl⟩:=hrow j X.cz[j] (by simp[hlt])
   have hxj:Hid (X.cz[j]?=some X.cz[j]):=by show _=_;simp[hlt]
   generalize X.cz[j]=x at *;simp only[Nat.add_zero] at hv0;have u0:=qzA hbw hv0;have u1:=qzA hbw hv1;have u2:=qzA hbw hv2;have u4:=qzA hbw hv4;have hsl2:=hsl.later xbq hbw;obtain⟨ad2,cap2,rfl,-,-,hby2,-⟩:=id hsl2;clear hv0 hv1 hv2 hv4 hsl hrow;have hj1:(j:Int)<(X.cz.length:Int):=by omega
   have hj0:(0:Int)<=(j:Int):=by omega
   go_wp2_with fail;refine (xf5 x.mz _ _ (hsl2.later xbq (xak _ _))).mono ?_;rintro e w1 ⟨g',rfl,hM,hg',hb⟩;obtain⟨hc,hf⟩:=xjm hb;have h5:s j<=wr.heap.size:=hst.2.2.2.1;replace hst:=(hst.later (xak _ _)).later hb;have hg2:wr.heap.size+1<=g':=by simpa using hg'
   have hz1:wr.heap.size+1<=w1.heap.size:=by have:=hb.size;simpa using this
   replace hst:=hst.set h5 3 (.slice (some ⟨g',0,none⟩) x.mz.length x.mz.length);replace hM:=hM.set (d:=wr.heap.size) xbq (by omega) 3 (.slice (some ⟨g',0,none⟩) x.mz.length x.mz.length)
   have hz2:(w1.setCell ⟨wr.heap.size,3,none⟩ (.slice (some ⟨g',0,none⟩) x.mz.length x.mz.length)).heap.size=w1.heap.size:=by simp
   have d3:(w1.setCell ⟨wr.heap.size,3,none⟩ (.slice (some ⟨g',0,none⟩) x.mz.length x.mz.length)).cell? ⟨wr.heap.size,3,none⟩=some (.slice (some ⟨g',0,none⟩) x.mz.length x.mz.length):=xb5 (v:=.slice ad2 x.mz.length cap2) (by rw[hc _ _ (by simp)];simp) _
   obtain⟨⟨cur,k1,k2⟩,k3⟩:=id hst;have f1:∀ o,(w1.setCell ⟨wr.heap.size,3,none⟩ (.slice (some ⟨g',0,none⟩) x.mz.length x.mz.length)).frozen? ⟨w.heap.size+1+1,o,none⟩=false:=fun o=>(by simp only[World.frozen?,k1];simp)
   have f2:∀ o,w1.frozen? ⟨w.heap.size+1+1,o,none⟩=false:=fun o=>(by rw[← World.frozen?_setCell (a:=⟨wr.heap.size,3,none⟩) (v:=(.slice (some ⟨g',0,none⟩) x.mz.length x.mz.length))];exact f1 o)
   have ex:∀ o,o<X.cz.length*4->∃ u,w1.cell? ⟨w.heap.size+1+1,o,none⟩=some u:=fun o ho=>by
    have:=qzI w1 ⟨wr.heap.size,3,none⟩ ⟨w.heap.size+1+1,o,none⟩ (.slice (some ⟨g',0,none⟩) x.mz.length x.mz.length) (by simp;omega)
    rw[qzB k1] at this
    exact⟨cur[o]'(by omega),by rw[← this];simp⟩
   obtain⟨y0,e0⟩:=ex (j*4) (by omega)
   obtain⟨y1,e1⟩:=ex (j*4+1) (by omega)
   obtain⟨y2,e2⟩:=ex (j*4+2) (by omega)
   obtain⟨y3,e3⟩:=ex (j*4+3) (by omega)
   have hne:¬ wr.heap.size=w.heap.size+1+1:=by omega
   have hne':¬ w.heap.size+1+1=wr.heap.size:=by omega
   clear k1 k2 k3;go_wp2
   go_roundg (gk-1)
   case measure=>omega
   case rel=>
    obtain⟨s',hs'⟩:=hst.step hxj.out hsz (by omega) hM hby2
    refine⟨j+1,by omega,by go_num,?_,s',hs'⟩
    exact (((((hbel.trans (((xak _ _).trans (hb.mono (by simp))).mono (by omega))).setCell (by simp;omega) _).setCell (by simp) _).setCell (by simp) _).setCell (by simp) _).setCell (by simp) _
  ·obtain rfl:j=X.cz.length:=by omega
   have q1:wr.drew.cell? ⟨w.heap.size,1,none⟩=some (Value.slice adh X.heap.length caph):=by
    show wr.cell? _=_
    rw[hbel.cell (by simp;omega)];simp
   have q2:wr.drew.cell? ⟨w.heap.size,2,none⟩=some (.int .i64 X.ez):=by
    show wr.cell? _=_
    rw[hbel.cell (by simp;omega)];simp
   have r0:wr.drew.cell? ⟨w.heap.size+1,0,none⟩=some (Value.slice none 0 0):=by
    show wr.cell? _=_
    rw[hbel.cell (by simp)];simp
   have r1:wr.drew.cell? ⟨w.heap.size+1,1,none⟩=some (Value.slice none 0 0):=by
    show wr.cell? _=_
    rw[hbel.cell (by simp)];simp
   have r2:wr.drew.cell? ⟨w.heap.size+1,2,none⟩=some (.int .i64 0):=by
    show wr.cell? _=_
    rw[hbel.cell (by simp)];simp
   have rf:∀ o,wr.drew.frozen? ⟨w.heap.size+1,o,none⟩=false:=fun o=>by
    show wr.frozen? _=_
    rw[hbel.frozen (by simp)];simp
   have hH:=h2.later xaE hbw.drew;have hst1:=hst.later (qzL _ _).drew;have hs5:s X.cz.length<=wr.drew.heap.size:=hst1.2.2.2.1;have hzd:w.heap.size+1+1<wr.drew.heap.size:=hz;have hbd:=hbw.drew;clear hst hW hrow hrowh hbel hbw h2;go_wp2_with fail
   go_region_held3 (fun w'=>w'.cell? ⟨w.heap.size,1,none⟩=some (Value.slice adh X.heap.length caph)/\w'.cell? ⟨w.heap.size,2,none⟩=some (.int .i64 X.ez)) (first | exact⟨q1,q2⟩ | exact⟨d1,d2⟩ | exact⟨(qzM _ _ _ _ (by first | (simp;done) | (simp;omega))).trans ((qzM _ _ _ _ (by first | (simp;done) | (simp;omega))).trans ((qzM _ _ _ _ (by first | (simp;done) | (simp;omega))).trans d1)),(qzM _ _ _ _ (by first | (simp;done) | (simp;omega))).trans ((qzM _ _ _ _ (by first | (simp;done) | (simp;omega))).trans ((qzM _ _ _ _ (by first | (simp;done) | (simp;omega))).trans d2))⟩)
    (first | (go_at_call 57;refine (xkg X.heap _ _ hH).mono ?_;rintro e w1 ⟨gh,sh,rfl,hown,hgh,hb1⟩;have d1:=qzA hb1 q1;have d2:=qzA hb1 q2;have t0:=qzA hb1 r0;have t1:=qzA hb1 r1;have t2:=qzA hb1 r2;have tf:∀ o,w1.frozen? ⟨w.heap.size+1,o,none⟩=false:=fun o=>(hb1.frozen (by simp;omega)).trans (rf o)))
   go_wp2;have hst2:=hst1.later hb1;refine qzK (v:=WV (.slice (some ⟨w.heap.size+1+1,0,none⟩) X.cz.length X.cz.length) (.slice (some ⟨gh,0,none⟩) X.heap.length X.heap.length) X.ez) ?_ rfl ⟨_,gh,s,rfl,?_,⟨sh,?_⟩,by omega,by omega,?_⟩
   ·simp[results,Tryz.results33,go_sem,t0,t1,t2]
   ·exact ((hst2.setLow (by omega) _ _).setLow (by omega) _ _).setLow (by omega) _ _
   ·exact ((hown.setLow (by omega) _ _).setLow (by omega) _ _).setLow (by omega) _ _
   ·exact (((xaf hbd hb1).setCell (by simp) _).setCell (by simp) _).setCell (by simp) _
section
variable {σ:Type} {p:Mp σ} {T T':Nat->Nat} {w w':World} {mb:Nat} {m m':Mc σ} {calls calls':Int} {hv:Value} {g:Nat} {s:Nat->Nat} {K fb:Nat} {f:Fr} {cv av tv sv kv:Value}
theorem xqb (v:QV)(w:World):(Instr.field 27 (VV v) 0).run Tryz.prog w=.ok (.int .i64 v.k) w:=by
 obtain⟨i0,hi,hz0,hz1,hz2⟩:=xa8 xj0
 simp[Instr.field,run_underlying Tryz.underlying27,part,sizeOf,typeInfo,hi,hz1,asAgg]
theorem xk3 (h:MacAt p T w mb m calls hv g s)(hF:FrAt T K w fb f cv av tv sv kv)(a b:Int)(ht:0<=m.tz/\m.tz<=300):Calls Tryz.prog 107 #[.pointer (some ⟨mb,0,none⟩),.pointer (some ⟨fb,0,none⟩),.int .i64 a,.int .i64 b] w fun e w'=>e=.returned (.int .i64 (xbz m f a b).2.2)/\MacAt p T w' mb (xbz m f a b).1 calls hv g s/\((xbz m f a b).2.2=0->∃ sv',FrAt T K w' fb (xbz m f a b).2.1 cv av tv sv' kv)/\Kp (fun t=>t=1\/t=K) T w w':=by
 have hp:=hF.pos;have hfl:=xqb;go_enter Tryz.func107,Tryz.ntmps107;go_wp2_with fail;refine (xen hF).mono ?_;rintro e w1 ⟨rfl,⟨sv1,hF1⟩,hK1⟩;have hM1:=h.keep (.refl _ _) hK1 (by omega) (by omega) (by omega)
 have HK:=hid hK1;clear h hF hK1
 by_cases h2:f.top.k=2
 ·have HE:Hid (xbz m f a b=(m,f.pop,0)):=by show _=_;unfold xbz;rw[if_pos h2]
  have h2':(f.top.k == 2)=true:=by simpa using h2
  have HM:=hid hM1;have HF:=hid hF1;clear hM1 hF1;go_wp2
  go_ret
  rw[HE.out]
  exact⟨rfl,HM.out,fun _=>⟨_,HF.out⟩,HK.out.mono fun t h=>Or.inr h⟩
 have h2':(f.top.k == 2)=false:=by simpa using h2
 by_cases h1:f.top.k=1
 ·have HE:Hid (xbz m f a b=xaV m f.pop a b):=by show _=_;unfold xbz;rw[if_neg h2,if_pos h1]
  have h1':(f.top.k == 1)=true:=by simpa using h1
  go_wp2_with fail;refine (xkz hM1 hF1 a b ht).mono ?_;rintro e w2 ⟨rfl,hM2,hF2,hK2⟩;have HM:=hid hM2;have HF:=hid hF2;have HK2:=hid hK2;clear hM1 hF1 hM2 hF2 hK2;go_wp2
  go_ret
  rw[HE.out]
  exact⟨rfl,HM.out,fun _=>⟨_,HF.out⟩,(HK.out.mono fun t h=>Or.inr h).trans (.refl _ _) HK2.out⟩
 have h1':(f.top.k == 1)=false:=by simpa using h1
 have HE:Hid (xbz m f a b=(m,f,11)):=by show _=_;unfold xbz;rw[if_neg h2,if_neg h1]
 have HM:=hid hM1;clear hM1 hF1;go_wp2
 go_ret
 rw[HE.out]
 exact⟨rfl,HM.out,fun h=>absurd h (by simp),HK.out.mono fun t h=>Or.inr h⟩
theorem xfS {ops:Array Oper}{o:Oper}{a:Act}{w:World}{K:Act->World->Prop}{Q:Exit->Act->World->Prop}{E:Prop}(hgd:o.guard=none)(s x:Operand)
  (hop:o.op=Op.call { callee:=Callee.builtin Builtin.append,args:=#[s,x],argTypes:=#[23,23] }) (g n:Nat) (hs:a.eval s=.slice (some ⟨g,0,none⟩) n n) (Bb:Nat) (hx:a.eval x=.slice (some ⟨Bb,0,none⟩) 1 1)
  (cur:Array Value) (hcur:w.heap[g]?=some (.cells cur 61 (0,0))) (hlen:cur.size=n*2) (x0 x1:Value) (h0:w.cell? ⟨Bb,0,none⟩=some x0) (h1:w.cell? ⟨Bb,1,none⟩=some x1) (o0:x0.oneCell'=true) (o1:x1.oneCell'=true) (hn:n<1000)
  (hK:∀ g' cap cur' w',n+1<=cap->cap<=maxLen->w'.heap[g']?=some (.cells cur' 61 (0,0))->cur'.toList.take ((n+1)*2)=cur.toList++[x0,x1]->w.heap.size<=g'->Below w.heap.size w w'->K (a.put o.dst (.slice (some ⟨g',0,none⟩) (n+1) cap)) w') :
  if Region.wanted o (yielded ops a.tmps)=true then Oper.wp Tryz.prog o a w K Q else E:=by
 obtain⟨i0,hi,hz0,hz1,hz2⟩:=xa8 xh9
 refine step_append_grows hgd s x 23 hop 61 i0 _ 2 32 Tryz.underlying23 hi hz0 hz1 hz2 rfl (by decide) (some ⟨g,0,none⟩) n n cur.toList hs (fun h=>by cases h) (by simpa using hlen)
  (fun b hb j u hu=>by cases hb;rw[Addr.add_lit,Nat.zero_add,qzB hcur];simpa using hu) ⟨Bb,0,none⟩ 1 1 [x0,x1] hx rfl
  (fun j u hu=>by
   rw[Addr.add_lit,Nat.zero_add]
   match j,hu with
   | 0,hu=>simp at hu;rw[← hu];exact h0
   | 1,hu=>simp at hu;rw[← hu];exact h1)
  (fun u hu=>by simp at hu;rcases hu with h | h<;>rw[h]<;>assumption) (by omega) (by unfold maxLen;omega) (by omega) ?_
 intro v' w' hown hgr;obtain⟨-,h | ⟨g',cap,cur',rfl,hb,hh,hc1,hc2,-,hc4⟩⟩:=hown
 ·omega
 ·exact hK g' cap cur' w' hc1 hc2 hh hc4 hb ((qzL _ _).grown hgr (qzC _) (fun k hk=>by cases hk))
structure NwS (w:World)(k:Nat)(w':World):Prop where
 bel:Below w.heap.size w w'
 c0:∃ u,w'.cell? ⟨w.heap.size,0,none⟩=some u
 c1:∃ u,w'.cell? ⟨w.heap.size,1,none⟩=some u
 fr:∀ o,w'.frozen? ⟨w.heap.size,o,none⟩=false
 vals:w'.heap[w.heap.size+1]?=some (.cells (xam (List.replicate k xaU)).toArray 27 (0,0))
theorem NwS.later {w w' w1:World}{k:Nat}(h:NwS w k w')(hb:Below w'.heap.size w' w1):NwS w k w1:=
 have h0:=h.c0;have h1:=h.c1
 ⟨xaf h.bel hb,h0.elim fun u hu=>⟨u,qzA hb hu⟩,h1.elim fun u hu=>⟨u,qzA hb hu⟩,fun o=>(hb.frozen (p:=⟨w.heap.size,o,none⟩) (h0.elim fun u hu=>World.block_lt_of_cell? w' ⟨w.heap.size,0,none⟩ hu)).trans (h.fr o),xad h.vals hb⟩
theorem xeU {w:World}{a b:Addr}{x:Value}(h:∃ u,w.cell? a=some u):∃ u,(w.setCell b x).cell? a=some u:=by
 obtain⟨u,h⟩:=h;obtain⟨v,hv⟩:=cell?_setCell_some (w:=w) (p:=b) (x:=x) (q:=a) (v:=u) h
 exact⟨v,hv⟩
theorem NwS.set {w w':World}{k:Nat}(h:NwS w k w')(o:Nat)(u:Value):NwS w k (w'.setCell ⟨w.heap.size,o,none⟩ u):=
 ⟨h.bel.setCell (qzC _) _,xeU h.c0,xeU h.c1,fun o'=>by rw[World.frozen?_setCell];exact h.fr o',by rw[xac (by omega)];exact h.vals⟩
theorem xrs {w w':World}{k b:Nat}{x y:Value}(hb:w.heap.size<b)(h:w'.cell? ⟨b,0,none⟩=some x/\w'.cell? ⟨b,1,none⟩=some y/\NwS w k w')(o o':Nat)(u u':Value) :
  ((w'.setCell ⟨w.heap.size,o,none⟩ u).setCell ⟨w.heap.size,o',none⟩ u').cell? ⟨b,0,none⟩=some x/\((w'.setCell ⟨w.heap.size,o,none⟩ u).setCell ⟨w.heap.size,o',none⟩ u').cell? ⟨b,1,none⟩=some y/\NwS w k ((w'.setCell ⟨w.heap.size,o,none⟩ u).setCell ⟨w.heap.size,o',none⟩ u'):=
 ⟨(qzI _ _ _ _ (by simp;omega)).trans ((qzI _ _ _ _ (by simp;omega)).trans h.1),(qzI _ _ _ _ (by simp;omega)).trans ((qzI _ _ _ _ (by simp;omega)).trans h.2.1),(h.2.2.set _ _).set _ _⟩
theorem xqQ {w w' w1:World}{k:Nat}{a b:Addr}{x y:Value}(h:w'.cell? a=some x/\w'.cell? b=some y/\NwS w k w')(hb:Below w'.heap.size w' w1):w1.cell? a=some x/\w1.cell? b=some y/\NwS w k w1:=⟨qzA hb h.1,qzA hb h.2.1,h.2.2.later hb⟩
theorem xpU {w1 wx w2:World}{hs:List QO}{cur cur':Array Value}{c:Int}{k g g' cap vb lo:Nat}{s:Nat->Nat}(hR:HRow w1 g s hs hs.length)(hcur:w1.heap[g]?=some (.cells cur 61 (0,0)))(hlen:cur.size=hs.length*2)(hx:Below w1.heap.size w1 wx)(hb2:Below wx.heap.size wx w2)(hv:w2.heap[vb]?=some (.cells (xam (List.replicate k xaU)).toArray 27 (0,0)))
  (h1:hs.length+1<=cap) (h2:cap<=maxLen) (hh:w2.heap[g']?=some (.cells cur' 61 (0,0))) (hcl:cur'.toList.take ((hs.length+1)*2)=cur.toList++[.int .i64 c,.slice (some ⟨vb,0,none⟩) k k]) (hg':wx.heap.size<=g') (hvg:vb<g) (hl:hs.length<1000) (hk:k<=2147483647) (hlo:lo<=vb) {T:Nat->Nat} (hT:∀ b,lo<=b->T b=2) :
  HeapSt T w2 (.slice (some ⟨g',0,none⟩) (hs.length+1) cap) g' (fun i=>if i=hs.length then vb else s i) (hs++[⟨c,List.replicate k xaU⟩]):=by
 have hb:=xaf hx hb2;have hgl:=xal hcur;have hxs:=hx.size
 have hcell:∀ j,j<(hs.length+1)*2->w2.cell? ⟨g',j,none⟩=(cur.toList++[.int .i64 c,.slice (some ⟨vb,0,none⟩) k k])[j]?:=fun j hj=>by
  rw[qzB hh,← hcl,List.getElem?_take,if_pos hj];simp
 have hcl':cur.toList.length=hs.length*2:=by simpa using hlen
 have hin:∀ i x,hs[i]?=some x->s i<w1.heap.size:=fun i x hx=>hR.lt i (xae hx)
 refine⟨⟨cap,by simp,by simpa using h1,h2⟩,by simp;omega,xal hh,hT _ (by omega),fun i x hi=>?_,fun i j hi hj e=>?_⟩
 ·by_cases hil:i<hs.length
  ·rw[List.getElem?_append_left hil] at hi;obtain⟨e1,e2,e3,e4,e5⟩:=hR.obj i x hil hi;simp only[show i≠hs.length by omega,if_false]
   have d:∀ j,j<hs.length*2->w2.cell? ⟨g',j,none⟩=w1.cell? ⟨g,j,none⟩:=fun j hj=>by
    rw[hcell j (by omega),List.getElem?_append_left (by omega),qzB hcur];simp
   have:=hin i x hi
   exact⟨by rw[d _ (by omega)];exact e1,by rw[d _ (by omega)];exact e2,xad e3 hb,hT _ (by omega),by omega,e5⟩
  ·have hi':i=hs.length:=by
    have:=xae hi
    simp at this;omega
   subst hi'
   simp at hi
   subst hi;simp only[if_true];refine⟨?_,?_,hv,hT _ hlo,by omega,by simp;omega⟩
   ·rw[hcell _ (by omega),List.getElem?_append_right (by omega),hcl'];simp
   ·rw[hcell _ (by omega),List.getElem?_append_right (by omega),hcl',show hs.length*2+1-hs.length*2=1 by omega];simp
 ·simp at hi hj
  have big:∀ i,i<hs.length->vb<s i:=fun i hi=>by
   have hx:hs[i]?=some hs[i]:=by simp[hi]
   have:=(hR.obj i _ hi hx).2.2.2.1
   omega
  by_cases a1:i=hs.length
  ·by_cases a2:j=hs.length
   ·omega
   ·rw[if_pos a1,if_neg a2] at e;have:=big j (by omega);omega
  ·by_cases a2:j=hs.length
   ·rw[if_neg a1,if_pos a2] at e;have:=big i (by omega);omega
   ·rw[if_neg a1,if_neg a2] at e
    rcases Nat.lt_trichotomy i j with h | h | h
    ·have:=hR.inc i j h (by omega);omega
    ·exact h
    ·have:=hR.inc j i h (by omega);omega
def xnp (w:World)(hs:List QO)(c:Int)(k:Nat)(e:Ending)(w':World):Prop:=Below w.heap.size w w'/\
  ((60<=hs.length\/2147483647<k)->e=.returned (.tuple #[.slice none 0 0,VV xaU,.int .i64 15]))/\
  (¬ (60<=hs.length\/2147483647<k)->∃ g s cap,e=.returned (.tuple #[.slice (some ⟨g,0,none⟩) (hs.length+1) cap,VV ⟨4,hs.length⟩,.int .i64 0])/\∀ T:Nat->Nat,T w.heap.size=4->(∀ b,w.heap.size+1<=b->T b=2)->HeapSt T w' (.slice (some ⟨g,0,none⟩) (hs.length+1) cap) g s (hs++[⟨c,List.replicate k xaU⟩]))
theorem xoX {P:Nat->Prop}(hs:List QO)(hv:Value)(c:Int)(k:Nat)(w:World)(h:xaD P w hv hs):Calls Tryz.prog 110 #[hv,.int .i64 c,.int .i64 k] w fun e w'=>xnp w hs c k e w':=by
 obtain⟨a,cap,rfl,-⟩:=id h
 by_cases h6:60<=hs.length
 ·have h6':(60:Int)<=(hs.length:Int):=by omega
  have HN:Hid (60<=hs.length\/2147483647<k):=Or.inl h6;go_enter Tryz.func110,Tryz.ntmps110;go_wp2;refine qzK (v:=.tuple #[.slice none 0 0,VV xaU,.int .i64 15]) ?_ rfl ⟨xak _ _,fun _=>rfl,fun hn=>absurd HN.out hn⟩
  simp[results,Tryz.results110,go_sem]
 have h6':¬ ((60:Int)<=(hs.length:Int)):=by omega
 by_cases h7:2147483647<k
 ·have h7':(2147483647:Int)<(k:Int):=by omega
  have HN:Hid (60<=hs.length\/2147483647<k):=Or.inr h7;go_enter Tryz.func110,Tryz.ntmps110;go_wp2;refine qzK (v:=.tuple #[.slice none 0 0,VV xaU,.int .i64 15]) ?_ rfl ⟨xak _ _,fun _=>rfl,fun hn=>absurd HN.out hn⟩
  simp[results,Tryz.results110,go_sem]
 have h7':¬ ((2147483647:Int)<(k:Int)):=by omega
 have hmk:=xcH k (by omega)
 have HN:Hid (¬ (60<=hs.length\/2147483647<k)):=by show ¬ _;omega
 have hk0:¬ ((k:Int)<0):=by omega
 have hb3:Below w.heap.size w (((w.alloc (.cells #[.int .i64 0,.int .i64 0] 27)).alloc (.cells (madeCells #[.int .i64 0,.int .i64 0] (k*2)) 27)).alloc (.cells #[.int .i64 c,.slice (some ⟨w.heap.size+1,0,none⟩) k k] 61)).drew:=(xfL _ _ _ _).drew;have hH:=h.later xaE hb3;have hsz:(((w.alloc (.cells #[.int .i64 0,.int .i64 0] 27)).alloc (.cells (madeCells #[.int .i64 0,.int .i64 0] (k*2)) 27)).alloc (.cells #[.int .i64 c,.slice (some ⟨w.heap.size+1,0,none⟩) k k] 61)).drew.heap.size=w.heap.size+3:=by simp
 have hS0:(((w.alloc (.cells #[.int .i64 0,.int .i64 0] 27)).alloc (.cells (madeCells #[.int .i64 0,.int .i64 0] (k*2)) 27)).alloc (.cells #[.int .i64 c,.slice (some ⟨w.heap.size+1,0,none⟩) k k] 61)).drew.cell? ⟨w.heap.size+1+1,0,none⟩=some (.int .i64 c)/\(((w.alloc (.cells #[.int .i64 0,.int .i64 0] 27)).alloc (.cells (madeCells #[.int .i64 0,.int .i64 0] (k*2)) 27)).alloc (.cells #[.int .i64 c,.slice (some ⟨w.heap.size+1,0,none⟩) k k] 61)).drew.cell? ⟨w.heap.size+1+1,1,none⟩=some (.slice (some ⟨w.heap.size+1,0,none⟩) k k)/\NwS w k (((w.alloc (.cells #[.int .i64 0,.int .i64 0] 27)).alloc (.cells (madeCells #[.int .i64 0,.int .i64 0] (k*2)) 27)).alloc (.cells #[.int .i64 c,.slice (some ⟨w.heap.size+1,0,none⟩) k k] 61)).drew:=by
  refine⟨xaa _ _ _ _ (by simp) 0,xaa _ _ _ _ (by simp) 1,hb3,⟨_,qzA (xbP _ _ _).drew (xaa w #[.int .i64 0,.int .i64 0] 27 _ rfl 0)⟩,⟨_,qzA (xbP _ _ _).drew (xaa w #[.int .i64 0,.int .i64 0] 27 _ rfl 1)⟩,fun o=>((xbP _ _ _).drew.frozen (p:=⟨w.heap.size,o,none⟩) (by simp)).trans (xap (qzJ w (.cells #[.int .i64 0,.int .i64 0] 27)) o),?_⟩
  rw[← xld];refine xad (w:=(w.alloc (.cells #[.int .i64 0,.int .i64 0] 27)).alloc (.cells (madeCells #[.int .i64 0,.int .i64 0] (k*2)) 27)) ?_ (xak _ _).drew;have:=qzJ (w.alloc (.cells #[.int .i64 0,.int .i64 0] 27)) (.cells (madeCells #[.int .i64 0,.int .i64 0] (k*2)) 27)
  simpa using this
 clear h;go_enter Tryz.func110,Tryz.ntmps110;go_wp2;generalize (((w.alloc (.cells #[.int .i64 0,.int .i64 0] 27)).alloc (.cells (madeCells #[.int .i64 0,.int .i64 0] (k*2)) 27)).alloc (.cells #[.int .i64 c,.slice (some ⟨w.heap.size+1,0,none⟩) k k] 61))=W0 at *;clear hmk;have hszW:W0.heap.size=w.heap.size+3:=hsz
 go_region_held3 (fun w'=>w'.cell? ⟨w.heap.size+1+1,0,none⟩=some (.int .i64 c)/\w'.cell? ⟨w.heap.size+1+1,1,none⟩=some (Value.slice (some { block:=w.heap.size+1,off:=0 }) k k)/\NwS w k w')
  (first | with_reducible exact hS0 | with_reducible exact hY | exact xrs (by omega) hY _ _ _ _ | exact xqQ (‹_/\_/\NwS w k _›) (xak _ _))
  (first
   | (refine xfS rfl (.tmp 24) (.tmp 26) rfl g hs.length rfl _ rfl cur (by first | exact hcur | exact ((xak _ _).block _ (xal hcur)).trans hcur) hlen (.int .i64 c) (Value.slice (some { block:=w.heap.size+1,off:=0 }) k k) (by first | (rw[xaa _ _ _ _ rfl];rfl) | exact qzA hb1 (xaa W0 _ 61 _ hszW 0)) (by first | (rw[xaa _ _ _ _ rfl];rfl) | exact qzA hb1 (xaa W0 _ 61 _ hszW 1)) rfl rfl hl0 ?_;intro g' cap' cur' w2 n1 n2 hh2 hcl hg2 hb2;have hY:=xqQ (‹_/\_/\NwS w k _›) hb2;have hfin:Hid (∀ T:Nat->Nat,(∀ b,w.heap.size+1<=b->T b=2)->HeapSt T w2 (.slice (some ⟨g',0,none⟩) (hs.length+1) cap') g' _ (hs++[⟨c,List.replicate k xaU⟩])):=(fun T hT=>xpU xfu hcur hlen (by first | exact qzL _ _ | exact xak _ _) hb2 hY.2.2.vals n1 n2 hh2 hcl hg2 (by omega) hl0 (by omega) (qzC _) hT);obtain⟨-,⟨v0,u0⟩,⟨v1,u1⟩,hfr,-⟩:=id hY.2.2)
   | (go_at_call 57;refine (xkg hs _ _ (hH.later xaE (by first | exact qzL _ _ | exact xak _ _))).mono ?_;rintro e w1 ⟨g,sg,rfl,xfu,hg1,hb1⟩;obtain⟨cur,hcur,hlen⟩:=xfu.row;have hl0:hs.length<1000:=(by omega);have hg3:w.heap.size+3<=g:=(by simp at hg1;omega);have hY:=xqQ (‹_/\_/\NwS w k _›) hb1))
 all_goals go_wp2
 all_goals (
  refine qzK (v:=.tuple #[.slice (some ⟨g',0,none⟩) (hs.length+1) cap',VV ⟨4,hs.length⟩,.int .i64 0]) ?_ rfl ⟨((hY.2.2.set _ _).set _ _).bel,fun h=>absurd h HN.out,fun _=>⟨g',(fun i=>if i=hs.length then w.heap.size+1 else sg i),cap',rfl,fun T hT1 hT2=>?_⟩⟩
  ·simp[results,Tryz.results110,go_sem,u0,u1]
  ·exact (hfin.out T hT2).keep (.refl _ _) (((Kp.refl (fun t=>t=4) _ _).set (fun _=>hT1) _ _).set (fun _=>hT1) _ _) (by omega))
structure MkS (w:World)(mb:Nat)(v0 v1:Value)(ep:Int)(w':World):Prop where
 bel:Below w.heap.size w w'
 m0:w'.cell? ⟨mb,0,none⟩=some v0
 m1:w'.cell? ⟨mb,1,none⟩=some v1
 m2:w'.cell? ⟨mb,2,none⟩=some (.int .i64 ep)
 lt:mb<w.heap.size
theorem MkS.later {w:World}{mb:Nat}{v0 v1:Value}{ep:Int}{w' w'':World}(h:MkS w mb v0 v1 ep w')(hb:Below w'.heap.size w' w''):MkS w mb v0 v1 ep w'':=⟨xaf h.bel hb,qzA hb h.m0,qzA hb h.m1,qzA hb h.m2,h.lt⟩
theorem MkS.set {w:World}{mb:Nat}{v0 v1:Value}{ep:Int}{w':World}(h:MkS w mb v0 v1 ep w'){b:Nat}(hb:w.heap.size<=b)(o:Nat)(u:Value):MkS w mb v0 v1 ep (w'.setCell ⟨b,o,none⟩ u):=
 have hl:=h.lt
 ⟨h.bel.setCell hb _,(qzI _ _ _ _ (by simp;omega)).trans h.m0,(qzI _ _ _ _ (by simp;omega)).trans h.m1,(qzI _ _ _ _ (by simp;omega)).trans h.m2,hl⟩
theorem MkS.al {w:World}{mb:Nat}{v0 v1:Value}{ep:Int}{w':World}(h:MkS w mb v0 v1 ep w'):w'.cell? ⟨mb,0,none⟩=some v0/\w'.cell? ⟨mb,1,none⟩=some v1/\w'.cell? ⟨mb,2,none⟩=some (.int .i64 ep)/\MkS w mb v0 v1 ep w':=⟨h.m0,h.m1,h.m2,h⟩
theorem xpc (w:World)(x:Obj):w.heap.size<(w.alloc x).drew.heap.size:=by simp
theorem xrX (T:Nat->Nat)(w:World){W' w2:World}{hv:Value}{g:Nat}{s:Nat->Nat}{xs:List QO}(h:∀ T:Nat->Nat,T W'.heap.size=4->(∀ b,W'.heap.size+1<=b->T b=2)->HeapSt T w2 hv g s xs):Hid (∃ T2,(w.heap.size<=W'.heap.size->Ext T T2 w)/\HeapSt T2 w2 hv g s xs/\∀ b,w.heap.size<=b->b<=W'.heap.size->T2 b=4):=by
 refine⟨fun b=>if b<w.heap.size/\b<W'.heap.size then T b else if b<=W'.heap.size then 4 else 2,fun hs b hb=>?_,h _ ?_ fun b hb=>?_,fun b h1 h2=>?_⟩
 ·simp only[if_pos (And.intro hb (qzE hb hs))]
 ·simp
 ·simp only[if_neg (show ¬ (b<w.heap.size/\b<W'.heap.size) by omega),if_neg (show ¬ b<=W'.heap.size by omega)]
 ·simp only[if_neg (show ¬ (b<w.heap.size/\b<W'.heap.size) by omega),if_pos h2]
theorem xlD {hv2:Value}{g2:Nat}{s2:Nat->Nat}{xs2:List QO}{w2 U:World}{T2:Nat->Nat}{v:QV}(hM:MacAt p T w mb m calls hv g s)(hF:FrAt T K w fb f cv av tv sv kv)(hE:Ext T T2 w)(hH:HeapSt T2 w2 hv2 g2 s2 xs2)(ha:U.heap[mb]?=some (MB p { m with heap:=xs2 } calls hv2))(kU:Kp (fun t=>t=1\/t=4) T2 w2 U)(kw:Kp (fun t=>t=1) T w U)(hroom:f.stack.length<1000000000) :
  Calls Tryz.prog 101 #[.pointer (some ⟨fb,0,none⟩),VV v] U fun e w'=>e=.returned (.tuple #[])/\(∃ T',Ext T T' w/\(∃ hv' g' s',MacAt p T' w' mb { m with heap:=xs2 } calls hv' g' s')/\(((0:Int)=0)->∃ sv',FrAt T' K w' fb (f.push v) cv av tv sv' kv))/\Kp (fun t=>t=1\/t=K\/t=K+2) T w w':=by
 have hp:=hF.pos;have hMU:MacAt p T2 U mb { m with heap:=xs2 } calls hv2 g2 s2:=⟨ha,by rw[hE _ (xal hM.box)];exact hM.tag,hH.keep (.refl _ _) kU (by omega),hM.cls.fx xaA hE kw (by omega)⟩
 have hFU:=hF.keep hE kw (by omega) (by omega) (by omega) (by omega)
 refine (xew hFU v hroom).mono ?_;rintro e w4 ⟨rfl,⟨T4,sv4,e4,hF4⟩,k4⟩;have ew:Ext T T4 w:=hE.trans kw.size e4;refine⟨rfl,⟨T4,ew,⟨_,_,_,hMU.keep e4 k4 (by omega) (by omega) (by omega)⟩,fun _=>⟨_,hF4⟩⟩,?_⟩
 exact (kw.mono fun t h=>Or.inl h).trans hE (k4.mono fun t h=>Or.inr h)
def xop (p:Mp σ)(T:Nat->Nat)(w:World)(mb:Nat)(m:Mc σ)(calls:Int)(K fb:Nat)(f:Fr)(cv av tv kv:Value)(r:Mc σ × Fr × Int)(e:Ending)(w':World):Prop:=
 e=.returned (.int .i64 r.2.2)/\(∃ T',Ext T T' w/\(∃ hv' g' s',MacAt p T' w' mb r.1 calls hv' g' s')/\(r.2.2=0->∃ sv',FrAt T' K w' fb r.2.1 cv av tv sv' kv))/\Kp (fun t=>t=1\/t=K\/t=K+2) T w w'
theorem xgO (h:MacAt p T w mb m calls hv g s)(hF:FrAt T K w fb f cv av tv sv kv)(c:Int)(hsl:xbe p.E.cz c=xaY p.E.cz c/\0<=xaY p.E.cz c)(hroom:f.stack.length<1000000000):Calls Tryz.prog 104 #[.pointer (some ⟨mb,0,none⟩),.pointer (some ⟨fb,0,none⟩),.int .i64 c] w fun e w'=>xop p T w mb m calls K fb f cv av tv kv (xbV p.E m f c) e w':=by
 have hp:=hF.pos;have hlm:=xal h.box;have hlf:=xal hF.box;obtain⟨k,hk⟩:∃ k:Nat,xaY p.E.cz c=(k:Int):=⟨(xaY p.E.cz c).toNat,by omega⟩
 have HE:Hid (xbV p.E m f c=if 60<=m.heap.length\/2147483647<k then (m,f,15) else ({ m with heap:=m.heap++[⟨c,List.replicate k xaU⟩] },f.push ⟨4,m.heap.length⟩,0)):=by
  show _=_
  unfold xbV;rw[hk];simp only[Int.toNat_natCast]
  by_cases hc:60<=m.heap.length\/(2147483647:Int)<(k:Int)
  ·rw[if_pos hc,if_pos (by omega)]
  ·rw[if_neg hc,if_neg (by omega)]
 have hW:xbe p.E.cz c=(k:Int):=by rw[hsl.1,hk]
 clear hk hsl;have hd:Below w.heap.size w w.drew:=(qzL _ _).drew;have hM:=h;have hFr:=hF;have hH:=hM.heap.heap.mono (Q:=fun _=>True) xaE fun _ _=>trivial
 have hC:=hM.cls.mono (Q:=fun _=>True) xaA fun _ _=>trivial
 have hS0:MkS w mb p.cv hv p.ep w.drew:=⟨hd,hM.c0,hM.c1,hM.c2,hlm⟩;have HM:=hid hM;have HF:=hid hFr;obtain⟨ac,cc,hcv,-⟩:=id hC;obtain⟨ah,ch,rfl,-⟩:=id hH
 have hslots:∀ w':World,Below w.heap.size w w'->Calls Tryz.prog 111 #[WV p.cv (.slice ah m.heap.length ch) p.ep,.int .i64 c] w' fun e w''=>e=.returned (.int .i64 (k:Int))/\Below w'.heap.size w' w'':=fun w' hb=>by
  have:=xkX ⟨p.E.cz,m.heap,p.ep⟩ c _ _ w' (hC.later xaA hb) (hH.later xaE hb);rw[hW] at this
  exact this
 rw[hcv] at hslots hS0;have hnew:∀ w':World,Below w.heap.size w w'->Calls Tryz.prog 110 #[.slice ah m.heap.length ch,.int .i64 c,.int .i64 (k:Int)] w' fun e w''=>xnp w' m.heap c k e w'':=fun w' hb=>xoX m.heap _ c k w' (hH.later xaE hb)
 clear h hF hM hFr hW hcv hC hH
 by_cases hc:60<=m.heap.length\/2147483647<k
 ·rw[if_pos hc] at HE;rw[HE.out];have HC:=hid hc;clear hc;go_enter Tryz.func104,Tryz.ntmps104;go_wp2;have tokA:True:=trivial
  go_region_held3 (fun w'=>w'.cell? ⟨mb,0,none⟩=some (.slice ac p.E.cz.length cc)/\w'.cell? ⟨mb,1,none⟩=some (.slice ah m.heap.length ch)/\w'.cell? ⟨mb,2,none⟩=some (.int .i64 p.ep)/\MkS w mb (.slice ac p.E.cz.length cc) (.slice ah m.heap.length ch) p.ep w')
   (first | with_reducible exact hS0.al | with_reducible exact hY.al | with_reducible exact hY2.al | exact (hY2.later (xak _ _)).al | exact ((‹_/\_/\_/\MkS w mb (.slice ac p.E.cz.length cc) (.slice ah m.heap.length ch) p.ep _›).2.2.2.later (xak _ _)).al | exact ((hY2.set (by omega) _ _).set (by omega) _ _).al)
   (first
    | (have _t:=tokA;go_at_call 111;refine (hslots _ (‹_/\_/\_/\MkS w mb (.slice ac p.E.cz.length cc) (.slice ah m.heap.length ch) p.ep _›).2.2.2.bel).mono ?_;rintro e w1 ⟨rfl,hb1⟩;have hY:=(‹_/\_/\_/\MkS w mb (.slice ac p.E.cz.length cc) (.slice ah m.heap.length ch) p.ep _›).2.2.2.later hb1;clear tokA;have tokB:True:=trivial;obtain⟨hc1,hf1⟩:=xjm hb1;have hz1:=hY.bel.size;try (have hl:=qzE (xpc w _) hb1.size))
    | (have _t:=tokB;go_at_call 110;refine (hnew _ (‹_/\_/\_/\MkS w mb (.slice ac p.E.cz.length cc) (.slice ah m.heap.length ch) p.ep _›).2.2.2.bel).mono ?_;rintro e w2 ⟨hb2,hp1,-⟩;obtain rfl:=hp1 HC.out;clear hp1;have hY2:=(‹_/\_/\_/\MkS w mb (.slice ac p.E.cz.length cc) (.slice ah m.heap.length ch) p.ep _›).2.2.2.later hb2;have hsz0:=(‹_/\_/\_/\MkS w mb (.slice ac p.E.cz.length cc) (.slice ah m.heap.length ch) p.ep _›).2.2.2.bel.size;clear tokB;obtain⟨hc2,hf2⟩:=xjm hb2;have hz2:=hb2.size;have hz3:=hb1.size))
  all_goals (
   have HBF:=hid (‹_/\_/\_/\MkS w mb (.slice ac p.E.cz.length cc) (.slice ah m.heap.length ch) p.ep _›).2.2.2.bel;clear hY hY2;go_wp2
   go_ret
   exact⟨rfl,⟨T,.refl _ _,⟨_,_,_,HM.out.later HBF.out⟩,fun h=>absurd h (by simp)⟩,Kp.of_below HBF.out⟩)
 ·rw[if_neg hc] at HE;rw[HE.out];have HC:=hid hc;clear hc;go_enter Tryz.func104,Tryz.ntmps104;go_wp2;have tokA:True:=trivial
  go_region_held3 (fun w'=>w'.cell? ⟨mb,0,none⟩=some (.slice ac p.E.cz.length cc)/\w'.cell? ⟨mb,1,none⟩=some (.slice ah m.heap.length ch)/\w'.cell? ⟨mb,2,none⟩=some (.int .i64 p.ep)/\MkS w mb (.slice ac p.E.cz.length cc) (.slice ah m.heap.length ch) p.ep w')
   (first | with_reducible exact hS0.al | with_reducible exact hY.al | with_reducible exact hY2.al | exact (hY2.later (xak _ _)).al | exact ((‹_/\_/\_/\MkS w mb (.slice ac p.E.cz.length cc) (.slice ah m.heap.length ch) p.ep _›).2.2.2.later (xak _ _)).al | exact ((hY2.set (by omega) _ _).set (by omega) _ _).al)
   (first
    | (have _t:=tokA;go_at_call 111;refine (hslots _ (‹_/\_/\_/\MkS w mb (.slice ac p.E.cz.length cc) (.slice ah m.heap.length ch) p.ep _›).2.2.2.bel).mono ?_;rintro e w1 ⟨rfl,hb1⟩;have hY:=(‹_/\_/\_/\MkS w mb (.slice ac p.E.cz.length cc) (.slice ah m.heap.length ch) p.ep _›).2.2.2.later hb1;clear tokA;have tokB:True:=trivial;obtain⟨hc1,hf1⟩:=xjm hb1;have hz1:=hY.bel.size;try (have hl:=qzE (xpc w _) hb1.size))
    | (have _t:=tokB;go_at_call 110;refine (hnew _ (‹_/\_/\_/\MkS w mb (.slice ac p.E.cz.length cc) (.slice ah m.heap.length ch) p.ep _›).2.2.2.bel).mono ?_;rintro e w2 ⟨hb2,-,hp2⟩;obtain⟨g2,s2,cap2,rfl,hheap⟩:=hp2 HC.out;have hsum:=xrX T w hheap;clear hp2 hheap;have hY2:=(‹_/\_/\_/\MkS w mb (.slice ac p.E.cz.length cc) (.slice ah m.heap.length ch) p.ep _›).2.2.2.later hb2;have hsz0:=(‹_/\_/\_/\MkS w mb (.slice ac p.E.cz.length cc) (.slice ah m.heap.length ch) p.ep _›).2.2.2.bel.size;clear tokB;obtain⟨hc2,hf2⟩:=xjm hb2;have hz2:=hb2.size;have hz3:=hb1.size))
  all_goals (
   have HW2:=hid hY2.bel;have hx2:=xad HM.out.box HW2.out;have hm1:w2.cell? ⟨mb,1,none⟩=some (.slice ah m.heap.length ch):=by rw[qzB hx2];rfl
   have hmf:=xap hx2;have HX2:=hid hx2;have hlm2:mb<w2.heap.size:=xal hx2;have hn1:¬ mb=w2.heap.size:=by omega
   have hn2:¬ mb=w1.heap.size:=by omega
   have hn3:¬ mb=w.heap.size:=by omega
   have hn4:¬ w2.heap.size=mb:=by omega
   have hn5:¬ w1.heap.size=mb:=by omega
   have hn6:¬ w.heap.size=mb:=by omega
   clear hY hY2 hx2;go_wp2_with fail;obtain⟨T2,hE,hH2,hT4⟩:=hsum.out;have hE2:=hE (by first | omega | (simp;omega))
   have hmt:T2 mb=1:=by rw[hE2 mb hlm];exact HM.out.tag
   have h4:∀ b,w.heap.size<=b->b<=w1.heap.size->T2 b=4:=fun b h1 h2=>hT4 b h1 (by first | omega | (simp;omega))
   refine (xlD (v:=⟨4,m.heap.length⟩) HM.out HF.out hE2 hH2
    (by first | exact xad (xj3 HX2.out _ _) (xak _ _) | exact xj3 (by rw[xac hn2,xac hn2];exact HX2.out) _ _ | exact xj3 (by rw[xac hn3,xac hn3];exact HX2.out) _ _)
    (by first | exact ((Kp.refl _ _ _).set (fun _=>Or.inl hmt) _ _).on (xak _ _) | exact (((Kp.refl _ _ _).set (fun _=>Or.inr (h4 _ (by omega) (by omega))) _ _).set (fun _=>Or.inr (h4 _ (by omega) (by omega))) _ _).set (fun _=>Or.inl hmt) _ _)
    (by first | exact ((Kp.of_below HW2.out).set (fun _=>HM.out.tag) _ _).on (xak _ _) | exact (((Kp.of_below HW2.out).set (fun h=>absurd h (by omega)) _ _).set (fun h=>absurd h (by omega)) _ _).set (fun _=>HM.out.tag) _ _)
    hroom).mono ?_
   rintro e w4 ⟨rfl,q1,q2⟩;have Q1:=hid q1;have Q2:=hid q2;clear q1 q2 hc1 hf1 hc2 hf2;go_wp2
   go_ret
   obtain⟨T',a1,a2,a3⟩:=Q1.out
   exact⟨rfl,⟨T',a1,a2,fun _=>a3 (by trivial)⟩,Q2.out⟩)
end
theorem xdH {α:Type}{E:Lay α}{sz bytes:Nat}{P:Nat->Prop}{w:World}{v:Value}{xs:List α}(h:IsRow E sz bytes P w v xs)(hE:∀ f x,E P w f x->E (fun b=>b<w.heap.size) w f x/\∃ u,f 0=some u):IsRow E sz bytes (fun b=>b<w.heap.size) w v xs:=by
 obtain⟨ad,cap,h1,h2,h3,h4,h5⟩:=h;refine⟨ad,cap,h1,h2,h3,h4,fun i x hx=>?_⟩
 obtain⟨b,o,e1,e2,e3⟩:=h5 i x hx;obtain⟨k1,u,k2⟩:=hE _ _ e3
 exact⟨b,o,e1,World.block_lt_of_cell? w _ k2,k1⟩
theorem xg3 {P:Nat->Prop}{w:World}{v:Value}{xs:List QI}(h:xaR P w v xs):xaR (fun b=>b<w.heap.size) w v xs:=xdH h fun f x hx=>⟨hx,_,hx.1⟩
theorem xfh {P:Nat->Prop}{w:World}{v:Value}{xs:List QV}(h:xaO P w v xs):xaO (fun b=>b<w.heap.size) w v xs:=xdH h fun f x hx=>⟨hx,_,hx.1⟩
theorem xjI {P:Nat->Prop}{w:World}{v:Value}{xs:List QM}(h:xbm P w v xs):xbm (fun b=>b<w.heap.size) w v xs:=xdH h fun f x hx=>by
 obtain⟨h0,h1,h2,h3,h4,c,h5,h6⟩:=hx
 exact⟨⟨h0,h1,h2,h3,h4,c,h5,xg3 h6⟩,_,h0⟩
theorem xca {P:Nat->Prop}{w:World}{v:Value}{xs:List QC}(h:xai P w v xs):xai (fun b=>b<w.heap.size) w v xs:=xdH h fun f x hx=>by
 obtain⟨h0,h1,h2,h3,c,h5,h6⟩:=hx
 exact⟨⟨h0,h1,h2,h3,c,h5,xjI h6⟩,_,h0⟩
theorem xc8 {P:Nat->Prop}{w:World}{v:Value}{xs:List QO}(h:xaD P w v xs):xaD (fun b=>b<w.heap.size) w v xs:=xdH h fun f x hx=>by
 obtain⟨h0,c,h5,h6⟩:=hx
 exact⟨⟨h0,c,h5,xfh h6⟩,_,h0⟩
abbrev ClV (s:QV)(name:ByteArray)(av:Value):Value:=.agg #[.int .i64 s.k,.int .i64 s.n,.string name,av]
theorem xds {α:Type}{f:Nat->α->Int}:∀ {l:List α} {k:Nat},(∀ i y,l[i]?=some y->f (k+i) y=0)->xbo f k l=0
 | [],_,_=>rfl
 | x :: r,k,h=>by
  unfold xbo;rw[if_neg (by have:=h 0 x rfl;simpa using this)]
  exact xds fun i y hy=>by have:=h (i+1) y (by simpa using hy);rw[show k+1+i=k+(i+1) by omega];exact this
structure WcR (w:World)(cv hv:Value)(ep:Int)(s:QV)(name:ByteArray)(av:Value)(w':World):Prop where
 bel:Below w.heap.size w w'
 w0:w'.cell? ⟨w.heap.size,0,none⟩=some cv
 w1:w'.cell? ⟨w.heap.size,1,none⟩=some hv
 w2:w'.cell? ⟨w.heap.size,2,none⟩=some (.int .i64 ep)
 c0:w'.cell? ⟨w.heap.size+1,0,none⟩=some (.int .i64 s.k)
 c1:w'.cell? ⟨w.heap.size+1,1,none⟩=some (.int .i64 s.n)
 c2:w'.cell? ⟨w.heap.size+1,2,none⟩=some (.string name)
 c3:w'.cell? ⟨w.heap.size+1,3,none⟩=some av
theorem WcR.later {w:World}{cv hv:Value}{ep:Int}{s:QV}{name:ByteArray}{av:Value}{w' w'':World}(h:WcR w cv hv ep s name av w')(hb:Below w'.heap.size w' w''):WcR w cv hv ep s name av w'':=
 ⟨xaf h.bel hb,qzA hb h.w0,qzA hb h.w1,qzA hb h.w2,qzA hb h.c0,qzA hb h.c1,qzA hb h.c2,qzA hb h.c3⟩
theorem xjk (w:World)(cv hv:Value)(ep:Int)(s:QV)(name:ByteArray)(av:Value):WcR w cv hv ep s name av ((w.alloc (.cells #[cv,hv,.int .i64 ep] 25)).alloc (.cells #[.int .i64 s.k,.int .i64 s.n,.string name,av] 30)):=
 ⟨xbP _ _ _,qzA (xak _ _) (xaa _ _ _ _ rfl 0),qzA (xak _ _) (xaa _ _ _ _ rfl 1),qzA (xak _ _) (xaa _ _ _ _ rfl 2),xaa _ _ _ _ (by simp) 0,xaa _ _ _ _ (by simp) 1,xaa _ _ _ _ (by simp) 2,xaa _ _ _ _ (by simp) 3⟩
theorem xnF {P Q:Nat->Prop}(X:QW)(s:QV)(name:ByteArray)(args:List QV)(fuel:Int)(cv hv av:Value)(w:World)(hcv:∃ a n c,cv=.slice a n c)(hH:xaD P w hv X.heap)(hA:xaO Q w av args)(hn:name.size<=140737488351232):Calls Tryz.prog 32 #[WV cv hv X.ez,ClV s name av,.int .i64 fuel] w fun e w'=>e=.returned (.int .i64 (xar X s name args fuel))/\Below w.heap.size w w':=by
 have hR:=xjk w cv hv X.ez s name av;obtain⟨ah,ch,rfl,-⟩:=id hH;obtain⟨aa,ca,rfl,hal,hac,-,hrow⟩:=id hA;obtain⟨ac,nc,cc,rfl⟩:=hcv;unfold maxLen at hac;go_enter Tryz.func32,Tryz.ntmps32
 go_upto_region 1 with (fail)
 generalize ((w.alloc (.cells #[.slice ac nc cc,.slice ah X.heap.length ch,.int .i64 X.ez] 25)).alloc (.cells #[.int .i64 s.k,.int .i64 s.n,.string name,.slice aa args.length ca] 30))=W at *;obtain⟨-,w0,w1,w2,c0,c1,c2,c3⟩:=id hR;go_wp2_with fail;refine (xmG name _ hn).mono ?_;rintro e w1' ⟨rfl,hb1⟩;have hR1:=hR.later hb1;clear w0 w1 w2 c0 c1 c2 c3 hR hb1;obtain⟨-,w0,w1,w2,c0,c1,c2,c3⟩:=id hR1
 cases hnb:xbr name with
 | false=>
  have HE:Hid (xar X s name args fuel=7):=by show _=_;unfold xar;rw[if_pos hnb]
  go_wp2
  go_ret
  exact⟨xan HE.out.symm,hR1.bel⟩
 | true=>
  by_cases h4:4<args.length
  ·have HE:Hid (xar X s name args fuel=5):=by show _=_;unfold xar;rw[if_neg (by rw[hnb];simp),if_pos h4]
   have h4':(4:Int)<(args.length:Int):=by omega
   go_wp2
   go_ret
   exact⟨xan HE.out.symm,hR1.bel⟩
  have h4':¬ ((4:Int)<(args.length:Int)):=by omega
  by_cases hf:fuel<0
  ·have HE:Hid (xar X s name args fuel=3):=by show _=_;unfold xar;rw[if_neg (by rw[hnb];simp),if_neg h4,if_pos (Or.inl hf)]
   have hf':decide (fuel<0)=true:=by simpa using hf
   go_wp2
   go_ret
   exact⟨xan HE.out.symm,hR1.bel⟩
  have hf':decide (fuel<0)=false:=by simpa using hf
  by_cases hg:400<fuel
  ·have HE:Hid (xar X s name args fuel=3):=by show _=_;unfold xar;rw[if_neg (by rw[hnb];simp),if_neg h4,if_pos (Or.inr hg)]
   have hg':decide (400<fuel)=true:=by simpa using hg
   go_wp2
   go_ret
   exact⟨xan HE.out.symm,hR1.bel⟩
  have hg':decide (400<fuel)=false:=by simpa using hg
  have HE:Hid (xar X s name args fuel=if xax X.heap.length s≠0 then xax X.heap.length s else xbo (fun _ v=>xax X.heap.length v) 0 args):=by show _=_;unfold xar;rw[if_neg (by rw[hnb];simp),if_neg h4,if_neg (by omega)]
  clear hnb hf hg;have hvw:=fun w=>xhs s (X.heap.length:Int) w
  generalize xax X.heap.length s=ws at *;go_wp2_with fail;refine (hvw _).mono ?_;rintro e w2' ⟨rfl,hb2⟩;have hR2:=hR1.later hb2;clear w0 w1 w2 c0 c1 c2 c3 hR1 hb2 hvw;obtain⟨-,w0,w1,w2,c0,c1,c2,c3⟩:=id hR2
  by_cases hws:ws=0
  ·have hws':(ws != 0)=false:=by simpa using hws
   rw[if_neg (by simpa using hws)] at HE
   clear hws;go_wp2;clear w0 w1 w2 c0 c1 c2 c3
   go_loopg [40] args.length (fun gk c wr=>∃ j:Nat,j+gk=args.length/\c=.int .i64 j/\WcR w (.slice ac nc cc) (.slice ah X.heap.length ch) X.ez s name (.slice aa args.length ca) wr/\∀ i y,i<j->args[i]?=some y->xax X.heap.length y=0)
   case atStart=>exact⟨0,by omega,rfl,hR2,fun i y hi=>by omega⟩
   case round=>
    clear hR2;obtain⟨j,hj,rfl,hRr,hok⟩:=hrel;have HO:=hid hok;clear hok;obtain⟨-,w0,w1,w2,c0,c1,c2,c3⟩:=id hRr
    by_cases hlt:j<args.length
    ·have hx:args[j]?=some args[j]:=by simp[hlt]
     have HX:=hid hx;generalize args[j]=y at *;obtain⟨b,o,rfl,-,v0,v1⟩:=hrow j y hx;simp only[Nat.add_zero] at v0;have u0:=qzA hRr.bel v0;have u1:=qzA hRr.bel v1;clear v0 v1 hrow hx;have hj1:(j:Int)<(args.length:Int):=by omega
     have hj0:(0:Int)<=(j:Int):=by omega
     have hvw:=fun w=>xhs y (X.heap.length:Int) w
     obtain⟨wy,hwy⟩:∃ wy,wy=xax X.heap.length y:=⟨_,rfl⟩;rw[← hwy] at hvw;have HWY:=hid hwy;clear hwy;have hRa:=hRr.later (xak wr (.cells #[.int .i64 y.k,.int .i64 y.n] 27));have y0:(wr.alloc (.cells #[.int .i64 y.k,.int .i64 y.n] 27)).cell? ⟨wr.heap.size,0,none⟩=some (.int .i64 y.k):=xaa _ _ _ _ rfl 0;have y1:(wr.alloc (.cells #[.int .i64 y.k,.int .i64 y.n] 27)).cell? ⟨wr.heap.size,1,none⟩=some (.int .i64 y.n):=xaa _ _ _ _ rfl 1
     go_upto_region 13 with (fail)
     clear w0 w1 w2 c0 c1 c2 c3 u0 u1 hRr;generalize (wr.alloc (.cells #[.int .i64 y.k,.int .i64 y.n] 27))=V at *;obtain⟨-,w0,w1,w2,c0,c1,c2,c3⟩:=id hRa;go_wp2_with fail;refine (hvw _).mono ?_;rintro e w5 ⟨rfl,hb5⟩;have hR5:=hRa.later hb5;clear w0 w1 w2 c0 c1 c2 c3 hRa hb5 hvw y0 y1
     by_cases hz:wy=0
     ·have hz':(wy != 0)=false:=by simpa using hz
      go_wp2
      go_roundg (gk-1)
      case measure=>omega
      case rel=>
       refine⟨j+1,by omega,by go_num,hR5,fun i y' hi hy=>?_⟩
       by_cases hij:i=j
       ·subst hij;rw[HX.out] at hy;cases hy;rw[← HWY.out];exact hz
       ·exact HO.out i y' (by omega) hy
     ·have hz':(wy != 0)=true:=by simpa using hz
      go_wp2
      go_ret
      refine⟨xan ?_,hR5.bel⟩;have:=xdt (f:=fun _ v=>xax X.heap.length v) (k:=0) HX.out (by rw[← HWY.out];exact hz) (fun i y' hi hy=>HO.out i y' hi hy)
      rw[HE.out,this,HWY.out]
    ·obtain rfl:j=args.length:=by omega
     go_wp2
     go_ret
     refine⟨xan ?_,hRr.bel⟩;rw[HE.out,xds fun i y hy=>HO.out i y (xae hy) hy]
  ·have hws':(ws != 0)=true:=by simpa using hws
   rw[if_pos hws] at HE;go_wp2
   go_ret
   exact⟨xan HE.out.symm,hR2.bel⟩
theorem xdO {P:Program}(w:World)(t ty e:TypeId)(i:TypeInfo)(ht:P.underlying t=some (.slice e))(hi:P.info? e=some i)(B:Nat)(ad:Option Addr)(cap:Nat) :
  (Builtin.append_ #[t,t] ty #[.slice (some ⟨B,0,none⟩) 0 0,.slice ad 0 cap]).run P w=.ok (.slice (some ⟨B,0,none⟩) 0 0) w:=by
 have hl:∀ (x:Addr),(loadCells x 0).run P w=.ok #[] w:=fun x=>by simpa using run_loadCells_list (P:=P) w x [] (by simp)
 cases ad<;>simp[Builtin.append_,run_underlying ht,sizeOf,typeInfo,hi,Builtin.lenOf,Builtin.firstCells,storeCells,hl]
theorem xbl {ops:Array Oper}{rest:List Oper}{o:Oper}{a:Act}{w:World}{Q:Exit->Act->World->Prop}(hgd:o.guard=none)(s x:Operand)(T e:TypeId)(z:Value)(sz bytes:Nat)
  (hop:o.op=Op.call { callee:=Callee.builtin Builtin.append,args:=#[s,x],argTypes:=#[T,T] }) (hT:Tryz.prog.underlying T=some (.slice e)) (hI:(Tryz.prog.info? e).map (fun i=>(i.zero,i.size,i.bytes))=some (some z,sz,bytes)) (hzs:z.cells.size=sz) (hsz:0<sz) (hbz:0<bytes)
  (B:Nat) (hs:a.eval s=.slice (some ⟨B,0,none⟩) 0 0) (hB:w.heap[B]?=some (.cells #[] e (0,0)))
  (ad:Option Addr) (n cap:Nat) (hx:a.eval x=.slice ad n cap) (cs:List Value) (hlen:cs.length=n*sz) (hsrc:∀ j u,cs[j]?=some u->∃ b,ad=some b/\w.cell? (b.add j)=some u) (hn:n*bytes<=140737488351232)
  (hK:∀ g cap' w',w'.ownsRow B e sz (.slice (some ⟨g,0,none⟩) n cap') n cs->(g=B\/w.heap.size<=g)->g<w'.heap.size->Below w.heap.size w w'->wpList Tryz.prog ops Q rest (a.put o.dst (.slice (some ⟨g,0,none⟩) n cap')) w') :
  wpList Tryz.prog ops Q (o :: rest) a w:=by
 refine wpList_plain hgd fun K hKK=>?_
 obtain⟨i0,hi,hz0,hz1,hz2⟩:=xa8 hI;have hBl:=xal hB
 by_cases h0:n=0
 ·subst h0;have hcs:cs=[]:=List.eq_nil_of_length_eq_zero (by simpa using hlen)
  have hrun:=xdO (P:=Tryz.prog) w T o.type e i0 hT hi B ad cap;unfold Oper.wp
  simp[execOp,hop,resolve,invoke,builtin,hs,hx,hrun,Result.andThen]
  refine hKK _ _ (hK B 0 w ?_ (Or.inl rfl) hBl (qzL _ _));rw[hcs]
  exact⟨by simp,.inr ⟨B,0,#[],rfl,qzC _,hB,qzC _,by unfold maxLen;omega,by simp,by simp⟩⟩
 ·obtain⟨b,rfl⟩:∃ b,ad=some b:=by
   have:0<cs.length:=by rw[hlen];exact Nat.mul_pos (by omega) hsz
   obtain⟨b,e,-⟩:=hsrc 0 cs[0] (by simp[this])
   exact⟨b,e⟩
  have hnb:n<=140737488351232:=qzD (Nat.le_mul_of_pos_right n hbz) hn;obtain⟨v',w',hrun,r1,r2⟩:=run_append_arg_grows (P:=Tryz.prog) w T o.type e i0 _ sz bytes hT hi hz0 hz1 hz2 hzs hsz ⟨B,0,none⟩ 0 0 [] (by simp) (fun j u hu=>by simp at hu) b n cap cs hlen (fun j u hu=>by obtain⟨b',e,h⟩:=hsrc j u hu;cases e;exact h) (by omega) (by unfold maxLen;omega) (by rw[Nat.zero_add];omega)
  simp only[Nat.zero_add,List.nil_append] at r1;obtain⟨g,cap',rfl,hg,hgl⟩:=r1.form (by omega)
  unfold Oper.wp
  simp[execOp,hop,resolve,invoke,builtin,hs,hx,hrun,Result.andThen]
  refine hKK _ _ (hK g cap' w' ?_ (Or.inr hg) hgl ((qzL _ _).grown r2 (qzC _) (fun k hk=>by cases hk)))
  obtain⟨q1,q2⟩:=r1;refine⟨q1,?_⟩
  rcases q2 with q2 | ⟨g',c',cur,e,h1,h2⟩
  ·exact .inl q2
  ·exact .inr ⟨g',c',cur,e,by omega,h2⟩
theorem xpb (a:Option Addr)(n c:Nat)(w:World):(binOp .eql 28 (.slice a n c) (.slice none 0 0)).run Tryz.prog w=.ok (.bool (a == none)) w:=by
 have u:=Tryz.underlying28
 cases a<;>go_simp<;>rfl
theorem xc4 {P:Nat->Prop}(xs:List QV)(v:Value)(w:World)(h:xaO P w v xs):Calls Tryz.prog 116 #[v] w fun e w'=>∃ a c,e=.returned (.slice a xs.length c)/\xaO (fun b=>w.heap.size<=b/\b<w'.heap.size) w' (.slice a xs.length c) xs/\Below w.heap.size w w':=by
 obtain⟨ad,cap,rfl,hl,hcap,hby,hrow⟩:=h
 cases ad with
 | none=>
  have hx:xs=[]:=by
   cases xs with
   | nil=>rfl
   | cons x r=>obtain⟨b,o,e,-⟩:=hrow 0 x rfl;cases e
  subst hx;have hq:=xpb none 0 cap;go_enter Tryz.func116,Tryz.ntmps116;go_wp2
  go_ret
  exact⟨none,0,rfl,⟨none,0,rfl,by simp,by simp,by simp,fun i x hx=>by simp at hx⟩,qzL _ _⟩
 | some ad=>
  obtain⟨cs,hcs,hsrc⟩:=hrow.cells xa1;have hvc:=xcy (E:=()) hcs;have hlen:=hcs.1;clear hrow;have hq:=xpb (some ad) xs.length cap;go_enter Tryz.func116,Tryz.ntmps116
  go_wp2_with (at_builtin;refine xbl rfl (.tmp 5) (.tmp 6) 28 27 _ 2 16 rfl Tryz.underlying28 xcg rfl (by omega) (by omega) w.heap.size rfl (by first | exact qzJ _ _ | (simp;done)) (some ad) xs.length cap rfl cs hlen (fun j u hj=>by obtain⟨b,e,h⟩:=hsrc j u hj;exact⟨b,e,qzA (xak _ _) h⟩) hby ?_;intro g cap' w' hown hg hgl hb)
  go_ret
  have hbw:Below w.heap.size w w':=xea (qzL _ _) hb;refine⟨some ⟨g,0,none⟩,cap',rfl,?_,hbw⟩;obtain⟨q1,q2 | ⟨g',c',cur,e,h1,h2,h3,h4,h5,h6⟩⟩:=hown
  ·cases q2.1
  ·cases e
   have hg2:w.heap.size<=g:=by rcases hg with h | h<;>simp at*<;> omega
   exact Cells.row (E:=xpo) (sz:=2) (cs:=cs) ⟨hlen,fun i x hx=>hcs.2 i x hx⟩ xa1 ⟨hg2,hgl⟩ h2 h6 h3 h4 hby
theorem ownsAt.tail {w:World}{g o cap:Nat}{xs:List QV}(h:ownsAt w 0 27 2 (.slice (some ⟨g,o,none⟩) xs.length cap) xs.length (xam xs)){k:Nat}(hk:k<=xs.length)(hb:xs.length<=1000000000):xaO (fun b=>b=g) w (.slice (some ⟨g,o+k*2,none⟩) (xs.drop k).length (cap-k)) (xs.drop k):=by
 have hv:=h.vals (by omega)
 obtain⟨a',c',e,h1,h2,h3,hr⟩:=hv
 cases e
 have hl:(xs.drop k).length=xs.length-k:=by simp
 refine⟨_,_,rfl,by omega,by unfold maxLen at *;omega,by omega,fun i x hx=>⟨g,o+k*2,rfl,rfl,?_⟩⟩
 rw[List.getElem?_drop] at hx;obtain⟨b,o',e,-,h0,h1⟩:=hr _ x hx
 cases e
 exact⟨by show w.cell? ⟨_,_,_⟩=_;rw[show o+k*2+i*2+0=o+(k+i)*2+0 by omega];exact h0,by show w.cell? ⟨_,_,_⟩=_;rw[show o+k*2+i*2+1=o+(k+i)*2+1 by omega];exact h1⟩
theorem xcj {T:Nat->Nat}{K:Nat}{w w1:World}{fb:Nat}{f:Fr}{cv av tv kv:Value}{a:Option Addr}{cap k:Nat}(h:FrAt T K w fb f cv av tv (.slice a f.stack.length cap) kv)(hk:k<=f.stack.length){av':Value}(hb:Below w.heap.size w w1)(hv:xaO (fun b=>w.heap.size<=b/\b<w1.heap.size) w1 av' (f.stack.drop k)) :
  ∃ T',Ext T T' w/\FrAt T' K (w1.setCell ⟨fb,10,none⟩ (.slice a k cap)) fb { f with stack:=f.stack.take k } cv av tv (.slice a k cap) kv/\xaO (Fx T' (w1.setCell ⟨fb,10,none⟩ (.slice a k cap))) (w1.setCell ⟨fb,10,none⟩ (.slice a k cap)) av' (f.stack.drop k)/\Kp (fun t=>t=K) T w (w1.setCell ⟨fb,10,none⟩ (.slice a k cap)):=by
 have hlt:=xal h.box;have e:=xaq T w 0;have kk:Kp (fun t=>t=K) T w (w1.setCell ⟨fb,10,none⟩ (.slice a k cap)):=(Kp.of_below hb).set (fun _=>h.tag) _ _
 have h':FrAt (xaF T w 0) K w fb f cv av tv (.slice a f.stack.length cap) kv:=h.keep (S:=fun _=>False) e (Kp.refl _ _ _) id id id id
 refine⟨xaF T w 0,e,h'.cut (m:=k) (kk.tags e) (xfB (xad h.box hb) _ _) hk,?_,kk⟩;refine hv.keep xa1 (Keeps.of_setCell (fun hp=>?_) _) fun b hb'=>⟨by rw[xa6];exact hb'.2,xaJ hb'.1⟩
 have:=hp.1;simp only at this
 omega
theorem xjl {T:Nat->Nat}{K:Nat}{w:World}{fb:Nat}{f:Fr}{cv av tv sv kv:Value}(h:FrAt T K w fb f cv av tv sv kv)(n:Int)(k:Nat)(hk:k=xbp f.stack n):Calls Tryz.prog 112 #[.pointer (some ⟨fb,0,none⟩),.int .i64 n] w fun e w'=>∃ a c T' sv',e=.returned (.slice a (f.stack.drop k).length c)/\Ext T T' w/\FrAt T' K w' fb { f with stack:=f.stack.take k } cv av tv sv' kv/\xaO (Fx T' w') w' (.slice a (f.stack.drop k).length c) (f.stack.drop k)/\Kp (fun t=>t=K) T w w':=by
 have hlt:=xal h.box;have c0:w.cell? ⟨fb,10,none⟩=some sv:=by rw[qzB h.box];rfl
 have hfew:=h.few;have hkl:k<=f.stack.length:=by rw[hk];unfold xbp;omega
 have HL:=hid hkl;obtain⟨a,cap,rfl,hc1,hc2⟩:=h.stack.form;unfold maxLen at hc2;have hk2:k<=cap:=by omega
 have hk3:(k:Int)<=(cap:Int):=by omega
 have hk4:(k:Int)<=(f.stack.length:Int):=by omega
 have H0:=hid h;have HS:=hid h.stack;have HX:=hid h.box;clear h
 by_cases hn:n<0
 ·have hn':decide (n<0)=true:=by simpa using hn
  have hkL0:k=f.stack.length:=by rw[hk];unfold xbp;omega
  have hkw:IntKind.i64.wrap ((f.stack.length:Int)-0)=(k:Int):=by rw[xat (by omega) (by omega)];omega
  have hkw2:IntKind.i64.wrap (f.stack.length:Int)=(k:Int):=by rw[xat (by omega) (by omega)];omega
  by_cases hck:cap=k
  ·have hkL:f.stack.length=k:=by omega
   have HV:Hid (xaO (fun _=>False) w.drew (.slice a (f.stack.drop k).length 0) (f.stack.drop k)):=by
    have e0:f.stack.drop k=[]:=List.drop_eq_nil_of_le (by omega)
    rw[e0]
    exact⟨a,0,rfl,by simp,by simp,by simp,fun i x hx=>by simp at hx⟩
   have HDL:Hid ((f.stack.drop k).length=f.stack.length-k):=by show _=_;simp
   rw[HDL.out] at HV;have hck0:cap-k=0:=by omega
   clear hck hkL;clear hk hkL0;go_enter Tryz.func112,Tryz.ntmps112;go_wp2
   go_region
   go_wp2_with fail;refine (xc4 (f.stack.drop k) _ _ HV.out).mono ?_;rintro e w1 ⟨a1,c1,rfl,hv1,hb1⟩;have hbw:Below w.heap.size w w1:=((qzL w.heap.size w).drew).trans hb1;have hbx:=xad HX.out hbw;have d0:w1.cell? ⟨fb,10,none⟩=some _:=(by rw[qzB hbx];rfl)
   have df:=xap hbx;have HV1:Hid (xaO (fun b=>w.heap.size<=b/\b<w1.heap.size) w1 _ (f.stack.drop k)):=hv1
   have HBW:=hid hbw;clear hv1 hb1 hbw hbx;go_wp2;obtain⟨T',q1,q2,q3,q4⟩:=xcj H0.out HL.out HBW.out HV1.out
   go_ret
   exact⟨a1,c1,T',_,(by rw[HDL.out];rfl),q1,q2,q3,q4⟩
  ·obtain⟨g,o,rfl⟩:∃ g o,a=some ⟨g,o,none⟩:=by
    obtain⟨-,⟨e,-⟩ | ⟨g,o,c,cur,e,-⟩⟩:=HS.out
    ·simp only[Value.slice.injEq] at e;omega
    ·cases e;exact⟨g,o,rfl⟩
   have HV:Hid (xaO (fun b=>b=g) w.drew (.slice (some ⟨g,o+k*2,none⟩) (f.stack.drop k).length (cap-k)) (f.stack.drop k)):=(ownsAt.tail HS.out HL.out hfew).later xa1 (qzL _ _).drew
   have HDL:Hid ((f.stack.drop k).length=f.stack.length-k):=by show _=_;simp
   rw[HDL.out] at HV;have hck0:¬ (cap-k=0):=by omega
   clear hck;clear hk hkL0;go_enter Tryz.func112,Tryz.ntmps112;go_wp2
   go_region
   go_wp2_with fail;refine (xc4 (f.stack.drop k) _ _ HV.out).mono ?_;rintro e w1 ⟨a1,c1,rfl,hv1,hb1⟩;have hbw:Below w.heap.size w w1:=((qzL w.heap.size w).drew).trans hb1;have hbx:=xad HX.out hbw;have d0:w1.cell? ⟨fb,10,none⟩=some _:=(by rw[qzB hbx];rfl)
   have df:=xap hbx;have HV1:Hid (xaO (fun b=>w.heap.size<=b/\b<w1.heap.size) w1 _ (f.stack.drop k)):=hv1
   have HBW:=hid hbw;clear hv1 hb1 hbw hbx;go_wp2;obtain⟨T',q1,q2,q3,q4⟩:=xcj H0.out HL.out HBW.out HV1.out
   go_ret
   exact⟨a1,c1,T',_,(by rw[HDL.out];rfl),q1,q2,q3,q4⟩
 ·obtain⟨m,rfl⟩:∃ m:Nat,n=(m:Int):=⟨n.toNat,by omega⟩
  by_cases hm:f.stack.length<m
  ·have hkw:IntKind.i64.wrap ((f.stack.length:Int)-(f.stack.length:Int))=(k:Int):=by rw[hk];unfold xbp;rw[xat (by omega) (by omega)];omega
   have hm2:(f.stack.length:Int)<(m:Int):=by omega
   have hkw2:(0:Int)=(k:Int):=by rw[hk];unfold xbp;omega
   by_cases hck:cap=k
   ·have hkL:f.stack.length=k:=by omega
    have HV:Hid (xaO (fun _=>False) w.drew (.slice a (f.stack.drop k).length 0) (f.stack.drop k)):=by
     have e0:f.stack.drop k=[]:=List.drop_eq_nil_of_le (by omega)
     rw[e0]
     exact⟨a,0,rfl,by simp,by simp,by simp,fun i x hx=>by simp at hx⟩
    have HDL:Hid ((f.stack.drop k).length=f.stack.length-k):=by show _=_;simp
    rw[HDL.out] at HV;have hck0:cap-k=0:=by omega
    clear hck hkL;clear hk;go_enter Tryz.func112,Tryz.ntmps112;go_wp2
    go_region
    go_wp2_with fail;refine (xc4 (f.stack.drop k) _ _ HV.out).mono ?_;rintro e w1 ⟨a1,c1,rfl,hv1,hb1⟩;have hbw:Below w.heap.size w w1:=((qzL w.heap.size w).drew).trans hb1;have hbx:=xad HX.out hbw;have d0:w1.cell? ⟨fb,10,none⟩=some _:=(by rw[qzB hbx];rfl)
    have df:=xap hbx;have HV1:Hid (xaO (fun b=>w.heap.size<=b/\b<w1.heap.size) w1 _ (f.stack.drop k)):=hv1
    have HBW:=hid hbw;clear hv1 hb1 hbw hbx;go_wp2;obtain⟨T',q1,q2,q3,q4⟩:=xcj H0.out HL.out HBW.out HV1.out
    go_ret
    exact⟨a1,c1,T',_,(by rw[HDL.out];rfl),q1,q2,q3,q4⟩
   ·obtain⟨g,o,rfl⟩:∃ g o,a=some ⟨g,o,none⟩:=by
     obtain⟨-,⟨e,-⟩ | ⟨g,o,c,cur,e,-⟩⟩:=HS.out
     ·simp only[Value.slice.injEq] at e;omega
     ·cases e;exact⟨g,o,rfl⟩
    have HV:Hid (xaO (fun b=>b=g) w.drew (.slice (some ⟨g,o+k*2,none⟩) (f.stack.drop k).length (cap-k)) (f.stack.drop k)):=(ownsAt.tail HS.out HL.out hfew).later xa1 (qzL _ _).drew
    have HDL:Hid ((f.stack.drop k).length=f.stack.length-k):=by show _=_;simp
    rw[HDL.out] at HV;have hck0:¬ (cap-k=0):=by omega
    clear hck;clear hk;go_enter Tryz.func112,Tryz.ntmps112;go_wp2
    go_region
    go_wp2_with fail;refine (xc4 (f.stack.drop k) _ _ HV.out).mono ?_;rintro e w1 ⟨a1,c1,rfl,hv1,hb1⟩;have hbw:Below w.heap.size w w1:=((qzL w.heap.size w).drew).trans hb1;have hbx:=xad HX.out hbw;have d0:w1.cell? ⟨fb,10,none⟩=some _:=(by rw[qzB hbx];rfl)
    have df:=xap hbx;have HV1:Hid (xaO (fun b=>w.heap.size<=b/\b<w1.heap.size) w1 _ (f.stack.drop k)):=hv1
    have HBW:=hid hbw;clear hv1 hb1 hbw hbx;go_wp2;obtain⟨T',q1,q2,q3,q4⟩:=xcj H0.out HL.out HBW.out HV1.out
    go_ret
    exact⟨a1,c1,T',_,(by rw[HDL.out];rfl),q1,q2,q3,q4⟩
  ·have hkw:IntKind.i64.wrap ((f.stack.length:Int)-(m:Int))=(k:Int):=by rw[hk];unfold xbp;rw[xat (by omega) (by omega)];omega
   have hm2:¬ ((f.stack.length:Int)<(m:Int)):=by omega
   by_cases hck:cap=k
   ·have hkL:f.stack.length=k:=by omega
    have HV:Hid (xaO (fun _=>False) w.drew (.slice a (f.stack.drop k).length 0) (f.stack.drop k)):=by
     have e0:f.stack.drop k=[]:=List.drop_eq_nil_of_le (by omega)
     rw[e0]
     exact⟨a,0,rfl,by simp,by simp,by simp,fun i x hx=>by simp at hx⟩
    have HDL:Hid ((f.stack.drop k).length=f.stack.length-k):=by show _=_;simp
    rw[HDL.out] at HV;have hck0:cap-k=0:=by omega
    clear hck hkL;clear hk;go_enter Tryz.func112,Tryz.ntmps112;go_wp2
    go_region
    go_wp2_with fail;refine (xc4 (f.stack.drop k) _ _ HV.out).mono ?_;rintro e w1 ⟨a1,c1,rfl,hv1,hb1⟩;have hbw:Below w.heap.size w w1:=((qzL w.heap.size w).drew).trans hb1;have hbx:=xad HX.out hbw;have d0:w1.cell? ⟨fb,10,none⟩=some _:=(by rw[qzB hbx];rfl)
    have df:=xap hbx;have HV1:Hid (xaO (fun b=>w.heap.size<=b/\b<w1.heap.size) w1 _ (f.stack.drop k)):=hv1
    have HBW:=hid hbw;clear hv1 hb1 hbw hbx;go_wp2;obtain⟨T',q1,q2,q3,q4⟩:=xcj H0.out HL.out HBW.out HV1.out
    go_ret
    exact⟨a1,c1,T',_,(by rw[HDL.out];rfl),q1,q2,q3,q4⟩
   ·obtain⟨g,o,rfl⟩:∃ g o,a=some ⟨g,o,none⟩:=by
     obtain⟨-,⟨e,-⟩ | ⟨g,o,c,cur,e,-⟩⟩:=HS.out
     ·simp only[Value.slice.injEq] at e;omega
     ·cases e;exact⟨g,o,rfl⟩
    have HV:Hid (xaO (fun b=>b=g) w.drew (.slice (some ⟨g,o+k*2,none⟩) (f.stack.drop k).length (cap-k)) (f.stack.drop k)):=(ownsAt.tail HS.out HL.out hfew).later xa1 (qzL _ _).drew
    have HDL:Hid ((f.stack.drop k).length=f.stack.length-k):=by show _=_;simp
    rw[HDL.out] at HV;have hck0:¬ (cap-k=0):=by omega
    clear hck;clear hk;go_enter Tryz.func112,Tryz.ntmps112;go_wp2
    go_region
    go_wp2_with fail;refine (xc4 (f.stack.drop k) _ _ HV.out).mono ?_;rintro e w1 ⟨a1,c1,rfl,hv1,hb1⟩;have hbw:Below w.heap.size w w1:=((qzL w.heap.size w).drew).trans hb1;have hbx:=xad HX.out hbw;have d0:w1.cell? ⟨fb,10,none⟩=some _:=(by rw[qzB hbx];rfl)
    have df:=xap hbx;have HV1:Hid (xaO (fun b=>w.heap.size<=b/\b<w1.heap.size) w1 _ (f.stack.drop k)):=hv1
    have HBW:=hid hbw;clear hv1 hb1 hbw hbx;go_wp2;obtain⟨T',q1,q2,q3,q4⟩:=xcj H0.out HL.out HBW.out HV1.out
    go_ret
    exact⟨a1,c1,T',_,(by rw[HDL.out];rfl),q1,q2,q3,q4⟩
section
variable {σ:Type} {p:Mp σ} {T T':Nat->Nat} {w w':World} {mb:Nat} {m m':Mc σ} {calls calls':Int} {hv:Value} {g:Nat} {s:Nat->Nat} {K fb:Nat} {f:Fr} {cv av tv sv kv:Value}
theorem HeapSt.slots {xs:List QO}(h:HeapSt T w hv g s xs){i:Nat}{x:QO}(hx:xs[i]?=some x){vs:List QV}(k:Kp (fun t=>t=1) (fun b=>if b=s i then 1 else 0) w w')(hn:w'.heap[s i]?=some (.cells (xam vs).toArray 27 (0,0)))(hl:vs.length=x.slots.length):HeapSt T w' hv g s (xs.set i ⟨x.cls,vs⟩):=by
 have hi:=xae hx;obtain⟨e1,e2,e3,e4,e5,e6⟩:=h.obj i x hx;have hk:∀ b,b<w.heap.size->b≠s i->w'.heap[b]?=w.heap[b]?:=fun b hb hne=>k.blk b hb (by simp[hne])
 have hc:∀ o u,w.cell? ⟨g,o,none⟩=some u->w'.cell? ⟨g,o,none⟩=some u:=fun o u hu=>by
  unfold World.cell? at hu ⊢;rw[hk g h.there (Ne.symm e5)];exact hu
 refine⟨by simpa using h.form,by simpa using h.len,qzE h.there k.size,h.tg,fun j y hy=>?_,fun a b ha hb=>h.inj a b (by simpa using ha) (by simpa using hb)⟩
 by_cases hj:j=i
 ·subst hj;rw[List.getElem?_set_self hi] at hy
  cases hy
  exact⟨hc _ _ e1,by rw[hl];exact hc _ _ e2,hn,e4,e5,by rw[hl];exact e6⟩
 ·rw[List.getElem?_set_ne (by omega)] at hy
  obtain⟨d1,d2,d3,d4,d5,d6⟩:=h.obj j y hy
  exact⟨hc _ _ d1,hc _ _ d2,by rw[hk _ (xal d3) fun e=>hj (h.inj j i (xae hy) hi e)];exact d3,d4,d5,d6⟩
theorem xfR (h:MacAt p T w mb m calls hv g s)(v:QV)(n:Int)(x:QV):Calls Tryz.prog 103 #[.pointer (some ⟨mb,0,none⟩),VV v,.int .i64 n,VV x] w fun e w'=>e=.returned (.tuple #[])/\(∃ T',Ext T T' w/\MacAt p T' w' mb { m with heap:=xaX m.heap v n x } calls hv g s)/\Kp (fun t=>t=2) T w w':=by
 have hlt:=xal h.box;have hb2:=xbP w (.cells #[.int .i64 v.k,.int .i64 v.n] 27) (.cells #[.int .i64 x.k,.int .i64 x.n] 27);have hM:=(h.tagged0 4).later hb2;have hX:=xaq T w 4;have hT4:∀ b,w.heap.size<=b->xaF T w 4 b=4:=fun b hb=>xaJ hb
 have b0:((w.alloc (.cells #[.int .i64 v.k,.int .i64 v.n] 27)).alloc (.cells #[.int .i64 x.k,.int .i64 x.n] 27)).cell? ⟨w.heap.size,0,none⟩=some (.int .i64 v.k):=qzA (xak _ _) (xaa _ _ _ _ rfl 0);have b1:((w.alloc (.cells #[.int .i64 v.k,.int .i64 v.n] 27)).alloc (.cells #[.int .i64 x.k,.int .i64 x.n] 27)).cell? ⟨w.heap.size,1,none⟩=some (.int .i64 v.n):=qzA (xak _ _) (xaa _ _ _ _ rfl 1);have x0:((w.alloc (.cells #[.int .i64 v.k,.int .i64 v.n] 27)).alloc (.cells #[.int .i64 x.k,.int .i64 x.n] 27)).cell? ⟨w.heap.size+1,0,none⟩=some (.int .i64 x.k):=xaa _ _ _ _ (by simp) 0
 have x1:((w.alloc (.cells #[.int .i64 v.k,.int .i64 v.n] 27)).alloc (.cells #[.int .i64 x.k,.int .i64 x.n] 27)).cell? ⟨w.heap.size+1,1,none⟩=some (.int .i64 x.n):=xaa _ _ _ _ (by simp) 1
 clear h;generalize xaF T w 4=T1 at *;go_enter Tryz.func103,Tryz.ntmps103
 go_upto_region 1 with (fail)
 generalize ((w.alloc (.cells #[.int .i64 v.k,.int .i64 v.n] 27)).alloc (.cells #[.int .i64 x.k,.int .i64 x.n] 27))=W at *;have c1:=hM.c1;obtain⟨cap,rfl,hc1,hc2⟩:=hM.heap.form;unfold maxLen at hc2;have KW:Hid (Kp (fun t=>t=2) T w W):=Kp.of_below hb2
 have HM:=hid hM
 cases hi:xdJ m.heap.length v with
 | false=>
  have HN:Hid (xaX m.heap v n x=m.heap):=by show _=_;unfold xaX;rw[xeI hi]
  have HD:Hid ((∃ T',Ext T T' w/\MacAt p T' W.drew mb { m with heap:=xaX m.heap v n x } calls (.slice (some ⟨g,0,none⟩) m.heap.length cap) g s)/\Kp (fun t=>t=2) T w W.drew):=⟨⟨T1,hX,by rw[HN.out];exact hM.later (qzL _ _).drew⟩,KW.out.drew⟩
  clear hM hb2;unfold xdJ at hi;simp only[decide_eq_false_iff_not] at hi
  by_cases hk:v.k=4
  ·have hk':(v.k == 4)=true:=by simpa using hk
   by_cases hn:v.n<0
   ·have hn':decide (0<=v.n)=false:=by simpa using hn
    clear hi
    go_region
    go_wp2
    exact bodyPost_end (v:=.tuple #[]) (by simp[results,Tryz.results103,go_sem]) rfl ⟨rfl,HD.out⟩
   ·have hn':decide (0<=v.n)=true:=by simpa using hn
    have hl:decide (v.n<(m.heap.length:Int))=false:=by simp;omega
    clear hi
    go_region
    go_wp2
    exact bodyPost_end (v:=.tuple #[]) (by simp[results,Tryz.results103,go_sem]) rfl ⟨rfl,HD.out⟩
  ·have hk':(v.k == 4)=false:=by simpa using hk
   clear hi
   go_region
   go_wp2
   exact bodyPost_end (v:=.tuple #[]) (by simp[results,Tryz.results103,go_sem]) rfl ⟨rfl,HD.out⟩
 | true=>
  obtain⟨j,o,hj,hjl,hjo,hob⟩:=xgj hi;have hk:v.k=4:=by unfold xdJ at hi;simp only[decide_eq_true_eq] at hi;exact hi.1
  have hk':(v.k == 4)=true:=by simpa using hk
  have HN:Hid (xaX m.heap v n x=m.heap.set j ⟨o.cls,xaW o.slots n x⟩):=by show _=_;unfold xaX;rw[hob];simp[hj]
  obtain⟨e1,e2,e3,e4,e5,e6⟩:=hM.heap.obj j o hjo;have HJ:=hid hjo;rw[hj] at b1;have hj1:(j:Int)<(m.heap.length:Int):=by omega
  have hj0:(0:Int)<=(j:Int):=by omega
  have n1:¬ mb=s j:=fun e=>by have:=hM.tag;rw[e,e4] at this;omega
  have n2:¬ w.heap.size=s j:=fun e=>by have:=hT4 w.heap.size (qzC _);rw[e,e4] at this;omega
  have n3:¬ w.heap.size+1=s j:=fun e=>by have:=hT4 (w.heap.size+1) (by omega);rw[e,e4] at this;omega
  have n4:¬ g=s j:=Ne.symm e5;have HE3:Hid (W.drew.drew.heap[s j]?=some (.cells (xam o.slots).toArray 27 (0,0))):=e3;have hS0:W.drew.drew.cell? ⟨mb,1,none⟩=some (.slice (some ⟨g,0,none⟩) m.heap.length cap)/\W.drew.drew.cell? ⟨w.heap.size,1,none⟩=some (.int .i64 (j:Int))/\W.drew.drew.cell? ⟨w.heap.size+1,0,none⟩=some (.int .i64 x.k)/\W.drew.drew.cell? ⟨w.heap.size+1,1,none⟩=some (.int .i64 x.n)/\W.drew.drew.cell? ⟨g,j*2+1,none⟩=some (.slice (some ⟨s j,0,none⟩) o.slots.length o.slots.length):=⟨c1,b1,x0,x1,e2⟩;have HT:=hid e4;clear hi hj hob hb2 hk e1 e3 e4 e5 e6 hM hjo
  go_region
  go_wp2;clear b0 b1 x0 x1 c1 e2;have hent:Calls Tryz.prog 102 #[.slice (some ⟨s j,0,none⟩) o.slots.length o.slots.length,.int .i64 n,VV x] W.drew.drew _:=xfp o.slots (s j) n x _ HE3.out
  go_region_held3 (fun w'=>w'.cell? ⟨mb,1,none⟩=some (.slice (some ⟨g,0,none⟩) m.heap.length cap)/\w'.cell? ⟨w.heap.size,1,none⟩=some (.int .i64 (j:Int))/\w'.cell? ⟨w.heap.size+1,0,none⟩=some (.int .i64 x.k)/\w'.cell? ⟨w.heap.size+1,1,none⟩=some (.int .i64 x.n)/\w'.cell? ⟨g,j*2+1,none⟩=some (.slice (some ⟨s j,0,none⟩) o.slots.length o.slots.length))
   (first | with_reducible exact hS0 | with_reducible exact hS1)
   (first | (go_at_call 102;refine hent.mono ?_;rintro e w1 ⟨rfl,hw1,hz1,hka⟩;have k1:=hka (fun t=>t=1) (fun b=>if b=s j then 1 else 0) (by simp);have hS1:=And.intro (k1.cell hS0.1 (by simp[n1])) (And.intro (k1.cell hS0.2.1 (by simp[n2])) (And.intro (k1.cell hS0.2.2.1 (by simp[n3])) (And.intro (k1.cell hS0.2.2.2.1 (by simp[n3])) (k1.cell hS0.2.2.2.2 (by simp[n4])))))))
  go_wp2;have kT:=hka (fun t=>t=2) T1 HT.out
  refine bodyPost_end (v:=.tuple #[]) (by simp[results,Tryz.results103,go_sem]) rfl ⟨rfl,⟨T1,hX,?_⟩,?_⟩
  ·have hm:=HM.out.later (w':=W.drew.drew) ((qzL _ _).drew).drew;refine⟨kT.held hm.box (by rw[hm.tag];omega),hm.tag,?_,hm.cls.fx xaA (.refl _ _) kT (by omega)⟩
   rw[HN.out]
   exact hm.heap.slots HJ.out k1 hw1 (xbE _ _ _)
  ·exact KW.out.trans hX (((Kp.refl _ _ _).drew.drew).trans (.refl _ _) kT)
end
end Go.Proofs.YtaodadfahifbpaaGreat
