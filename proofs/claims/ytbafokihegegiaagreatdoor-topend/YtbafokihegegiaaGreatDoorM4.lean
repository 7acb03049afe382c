/- A part. -/
import Derived.Test.YtbafokihegegiaaGreatDoorM3
namespace Go.Proofs.YtbafokihegegiaaGreatDoor
open Go.ChangeShapes Go.WideShapes Go.ChangeAt Go.RowKit
set_option linter.unusedSimpArgs false
set_option linter.unusedVariables false
set_option maxHeartbeats 8000000
set_option maxRecDepth 8000
theorem xj7 {P:Nat->Prop}(xs:List QV)(v:Value)(w:World)(hh:xaV P w v xs):Calls Tryz.prog 77 #[v] w fun e w'=>∃ g,e=.returned (.slice (some ⟨g,0,none⟩) xs.length xs.length)/\w'.heap[g]?=some (.cells (xaA xs).toArray 41 (0,0))/\w.heap.size<=g/\Below w.heap.size w w':=by
 obtain⟨ad,cap,rfl,hl,hcap,hby,hrow⟩:=hh;have hmk:=xd2 xs.length hby;obtain⟨cs,hcs,hsrc⟩:=hrow.cells xa7
 obtain⟨w1,hcp,h2,h3⟩:=xcD (P:=Tryz.prog) (w.alloc (.cells (madeCells #[.int .i64 0,.int .i64 0] (xs.length*2)) 41)) 52 52 3 41 2 w.heap.size xs.length xs.length ad cap (madeCells #[.int .i64 0,.int .i64 0] (xs.length*2)) 41 cs Tryz.underlying52 xrg (heap_alloc_new w _) hcs.1
  (fun j v hj=>by obtain⟨a,e,h⟩:=hsrc j v hj;exact⟨a,e,qzA (xai _ _) h⟩) (size_madeCells _ _) (hcs.all xa7)
 have HB:=h3 w.heap.size w (xai _ _) (qzC _);have HV:Hid (w1.heap[w.heap.size]?=some (.cells (xaA xs).toArray 41 (0,0))):=by show _=_;rw[← xff (E:=()) hcs];exact h2
 clear h2 h3 hrow hcs hsrc;go_enter Tryz.func77,Tryz.ntmps77;go_wp2
 go_ret
 exact⟨_,rfl,HV.out,qzC _,HB⟩
structure HRow (w:World)(B:Nat)(s:Nat->Nat)(xs:List QO)(j:Nat):Prop where
 row:∃ cur:Array Value,w.heap[B]?=some (.cells cur 84 (0,0))/\cur.size=xs.length*2
 obj:∀ i x,i<j->xs[i]?=some x->w.cell? ⟨B,i*2,none⟩=some (.int .i64 x.cls)/\w.cell? ⟨B,i*2+1,none⟩=some (.slice (some ⟨s i,0,none⟩) x.slots.length x.slots.length)/\w.heap[s i]?=some (.cells (xaA x.slots).toArray 41 (0,0))/\B<s i/\x.slots.length*16<=140737488351232
 inc:∀ i k,i<k->k<j->s i<s k
 lt:∀ i,i<j->s i<w.heap.size
theorem HRow.later {w w':World}{B:Nat}{s:Nat->Nat}{xs:List QO}{j:Nat}(h:HRow w B s xs j)(hb:Below w.heap.size w w'):HRow w' B s xs j:=by
 obtain⟨⟨cur,h1,h2⟩,h3,h4,h5⟩:=h;refine⟨⟨cur,by rw[hb.block _ (xam h1)];exact h1,h2⟩,fun i x hi hx=>?_,h4,fun i hi=>qzE (h5 i hi) hb.size⟩
 obtain⟨e1,e2,e3,e4,e5⟩:=h3 i x hi hx
 exact⟨qzA hb e1,qzA hb e2,by rw[hb.block _ (xam e3)];exact e3,e4,e5⟩
theorem HRow.start {w:World}(s:Nat->Nat)(xs:List QO)(c:Array Value)(hc:c.size=xs.length*2):HRow (w.alloc (.cells c 84)) w.heap.size s xs 0:=
 ⟨⟨c,heap_alloc_new w _,hc⟩,fun i x hi _=>by omega,fun i k _ hk=>by omega,fun i hi=>by omega⟩
theorem HRow.step {w:World}{B:Nat}{s:Nat->Nat}{xs:List QO}{j g:Nat}{x:QO}(h:HRow w B s xs j)(hx:xs[j]?=some x)(hg:w.heap[g]?=some (.cells (xaA x.slots).toArray 41 (0,0)))(hB:B<g)(hs:∀ i,i<j->s i<g)(hby:x.slots.length*16<=140737488351232) :
  HRow (w.setCells B (j*2) [.int .i64 x.cls,.slice (some ⟨g,0,none⟩) x.slots.length x.slots.length]) B (fun i=>if i=j then g else s i) xs (j+1):=by
 obtain⟨⟨cur,h1,h2⟩,h3,h4,h5⟩:=h;have hj:=xad hx;refine⟨xcc _ _ w ⟨cur,h1,h2⟩,fun i y hi hy=>?_,fun i k hi hk=>?_,fun i hi=>?_⟩
 ·by_cases hij:i=j
  ·subst hij;rw[hx] at hy
   cases hy
   have hc:=fun k (hk:k<2)=>World.cell?_setCells_in B [.int .i64 x.cls,.slice (some ⟨g,0,none⟩) x.slots.length x.slots.length] (i*2) w (fun q hq=>by rw[qzB h1];simp at hq ⊢;omega) k hk
   simp only[if_true]
   exact⟨hc 0 (by omega),hc 1 (by omega),by rw[xaF (by omega)];exact hg,hB,hby⟩
  ·obtain⟨e1,e2,e3,e4,e5⟩:=h3 i y (by omega) hy
   have ho:=fun k (hk:k<2)=>World.cell?_setCells_out B [.int .i64 x.cls,.slice (some ⟨g,0,none⟩) x.slots.length x.slots.length] (j*2) w ⟨B,i*2+k,none⟩ (fun _ _=>Or.inl (by simp;omega))
   simp only[hij,if_false]
   exact⟨(ho 0 (by omega)).trans e1,(ho 1 (by omega)).trans e2,by rw[xaF (by omega)];exact e3,e4,e5⟩
 ·by_cases hkj:k=j
  ·simp only[hkj,if_true,show i≠j by omega,if_false];exact hs i (by omega)
  ·simp only[hkj,if_false,show i≠j by omega];exact h4 i k hi (by omega)
 ·rw[xbq]
  by_cases hij:i=j
  ·simp only[hij,if_true];exact xam hg
  ·simp only[hij,if_false];exact h5 i (by omega)
theorem HRow.setLow {w:World}{B d:Nat}{s:Nat->Nat}{xs:List QO}{j:Nat}(h:HRow w B s xs j)(hd:d<B)(o:Nat)(v:Value):HRow (w.setCell ⟨d,o,none⟩ v) B s xs j:=by
 obtain⟨⟨cur,h1,h2⟩,h3,h4,h5⟩:=h;refine⟨⟨cur,by rw[xac (by omega)];exact h1,h2⟩,fun i x hi hx=>?_,h4,fun i hi=>by rw[xaX];exact h5 i hi⟩
 obtain⟨e1,e2,e3,e4,e5⟩:=h3 i x hi hx;have k:=fun (o':Nat)=>World.cell?_setCell_far w ⟨d,o,none⟩ ⟨B,o',none⟩ v (by simp;omega)
 exact⟨(k _).trans e1,(k _).trans e2,by rw[xac (by omega)];exact e3,e4,e5⟩
theorem HRow.heap {w:World}{g:Nat}{s:Nat->Nat}{xs:List QO}(h:HRow w g s xs xs.length)(hby:xs.length*32<=140737488351232){T:Nat->Nat}(hT:∀ b,g<=b->b<w.heap.size->T b=2):HeapSt T w (.slice (some ⟨g,0,none⟩) xs.length xs.length) g s xs:=by
 obtain⟨⟨cur,h1,h2⟩,h3,h4,h5⟩:=h;refine⟨⟨_,rfl,qzC _,by unfold maxLen;omega⟩,hby,xam h1,hT g (qzC _) (xam h1),fun i x hx=>?_,fun i j hi hj e=>?_⟩
 ·obtain⟨e1,e2,e3,e4,e5⟩:=h3 i x (xad hx) hx
  exact⟨e1,e2,e3,hT _ (by omega) (xam e3),by omega,e5⟩
 ·rcases Nat.lt_trichotomy i j with h | h | h
  ·have:=h4 i j h hj;omega
  ·exact h
  ·have:=h4 j i h hi;omega
theorem xlx {P:Nat->Prop}(hs:List QO)(v:Value)(w:World)(hh:xav P w v hs):Calls Tryz.prog 49 #[v] w fun e w'=>∃ g s,e=.returned (.slice (some ⟨g,0,none⟩) hs.length hs.length)/\HRow w' g s hs hs.length/\w.heap.size<=g/\Below w.heap.size w w':=by
 obtain⟨ad,cap,rfl,hl,hcap,hby,hrow⟩:=hh;have hmk:=xox hs.length hby;go_enter Tryz.func49,Tryz.ntmps49;go_wp2
 go_loopg [11] hs.length (fun g c wr=>∃ j:Nat,j+g=hs.length/\c=.int .i64 j/\Below w.heap.size w wr/\(∃ s,HRow wr w.heap.size s hs j)/\w.heap.size<wr.heap.size)
 case atStart=>exact⟨0,by omega,rfl,xai _ _,⟨fun _=>0,HRow.start _ _ _ (size_madeCells _ _)⟩,by simp⟩
 case round=>
  obtain⟨j,hj,rfl,hbel,⟨s,hst⟩,hz⟩:=hrel;clear hmk
  by_cases hlt:j<hs.length
  ·obtain⟨b,o,rfl,-,hv1,sv,hv2,hsl⟩:=hrow j hs[j] (by simp[hlt])
   simp only[Nat.add_zero] at hv1;have hxj:Hid (hs[j]?=some hs[j]):=by show _=_;simp[hlt]
   generalize hs[j]=x at *;have u1:=qzA hbel hv1;have u2:=qzA hbel hv2;have hsl2:=hsl.later xa7 hbel;obtain⟨ad2,cap2,rfl,hl2,hcap2,hby2,hrow2⟩:=id hsl2;clear hv1 hv2 hsl hrow2;have hj1:(j:Int)<(hs.length:Int):=by omega
   have hj0:(0:Int)<=(j:Int):=by omega
   go_wp2;have hW1:Below wr.heap.size wr (wr.alloc (Obj.cells #[Value.int .i64 x.cls,Value.slice ad2 x.slots.length cap2] 84)).drew:=(xai _ _).drew;have hIV:=hsl2.later xa7 hW1;have hst1:=hst.later hW1;have hbel1:=hbel.trans (hW1.mono (by omega))
   have c1:(wr.alloc (Obj.cells #[Value.int .i64 x.cls,Value.slice ad2 x.slots.length cap2] 84)).drew.cell? ⟨wr.heap.size,0,none⟩=some (Value.int .i64 x.cls):=by simp
   have c2:(wr.alloc (Obj.cells #[Value.int .i64 x.cls,Value.slice ad2 x.slots.length cap2] 84)).drew.cell? ⟨wr.heap.size,1,none⟩=some (Value.slice ad2 x.slots.length cap2):=by simp
   have hzz:(wr.alloc (Obj.cells #[Value.int .i64 x.cls,Value.slice ad2 x.slots.length cap2] 84)).drew.heap.size=wr.heap.size+1:=by simp
   clear hsl2 u1 u2 hrow
   go_region_held3 (fun w'=>w'.cell? ⟨wr.heap.size,0,none⟩=some (Value.int .i64 x.cls)/\w'.cell? ⟨wr.heap.size,1,none⟩=some (Value.slice ad2 x.slots.length cap2)) (first | exact⟨c1,c2⟩ | exact⟨d1,d2⟩ | exact⟨(World.cell?_setCell_other _ _ _ _ (by first | (simp;done) | (simp;omega))).trans ((World.cell?_setCell_other _ _ _ _ (by first | (simp;done) | (simp;omega))).trans d1),(World.cell?_setCell_other _ _ _ _ (by first | (simp;done) | (simp;omega))).trans ((World.cell?_setCell_other _ _ _ _ (by first | (simp;done) | (simp;omega))).trans d2)⟩)
    (first | (go_at_call 77;refine (xj7 x.slots _ _ hIV).mono ?_;rintro e w1 ⟨g',rfl,hg2,hgl,hb1⟩;have hst2:=hst1.later hb1;obtain⟨cur,k1,k2⟩:=hst2.row;have f1:∀ o,w1.frozen? ⟨w.heap.size,o,none⟩=false:=fun o=>(by simp[World.frozen?,k1]);have d1:=qzA hb1 c1;have d2:=qzA hb1 c2;have e1:w1.cell? ⟨w.heap.size,j*2,none⟩=some (cur[j*2]'(by omega)):=(by rw[qzB k1];simp);have e2:w1.cell? ⟨w.heap.size,j*2+1,none⟩=some (cur[j*2+1]'(by omega)):=(by rw[qzB k1];simp)))
   go_wp2
   go_roundg (gk-1)
   case measure=>omega
   case rel=>
    have hlt1:w.heap.size<w1.heap.size:=qzE (by omega) hb1.size
    refine⟨j+1,by omega,by go_num,((hbel1.trans (hb1.mono (by omega))).setCell (qzC _) _).setCell (qzC _) _,?_,by simp;omega⟩
    have hg3:wr.heap.size+1<=g':=by rw[hzz] at hgl;exact hgl
    exact⟨_,hst2.step hxj.out hg2 (by omega) (fun i hi=>by have:=hst.lt i hi;omega) hby2⟩
  ·obtain rfl:j=hs.length:=by omega
   go_wp2
   go_ret
   exact⟨_,s,rfl,hst,qzC _,hbel⟩
theorem xn9 {P:Nat->Prop}(X:QW)(cv hv:Value)(w:World)(h1:xag P w cv X.cz)(h2:xav P w hv X.heap):Calls Tryz.prog 32 #[WV cv hv X.ez] w fun e w'=>∃ g gh s,e=.returned (WV (.slice (some ⟨g,0,none⟩) X.cz.length X.cz.length) (.slice (some ⟨gh,0,none⟩) X.heap.length X.heap.length) X.ez)/\OwnC w' g X.cz s X.cz.length/\
  (∃ sh,HRow w' gh sh X.heap X.heap.length)/\s X.cz.length<=gh/\w.heap.size<=g/\Below w.heap.size w w':=by
 obtain⟨ad,cap,rfl,hl,hcap,hby,hrow⟩:=h1;obtain⟨adh,caph,rfl,hlh,hcaph,hbyh,hrowh⟩:=id h2;have hmk:=xjj X.cz.length hby;go_enter Tryz.func32,Tryz.ntmps32;go_wp2;have hW:=xeQ w (Obj.cells #[Value.slice ad X.cz.length cap,Value.slice adh X.heap.length caph,Value.int .i64 X.ez] 26) (Obj.cells #[Value.slice none 0 0,Value.slice none 0 0,Value.int .i64 0] 26) (Obj.cells (madeCells #[Value.string { data:=#[] },Value.int .i64 0,Value.int .i64 0,Value.slice none 0 0] (X.cz.length*4)) 80);have hS0:=OwnC.start ((w.alloc (Obj.cells #[Value.slice ad X.cz.length cap,Value.slice adh X.heap.length caph,Value.int .i64 X.ez] 26)).alloc (Obj.cells #[Value.slice none 0 0,Value.slice none 0 0,Value.int .i64 0] 26)) X.cz (madeCells #[Value.string { data:=#[] },Value.int .i64 0,Value.int .i64 0,Value.slice none 0 0] (X.cz.length*4)) (size_madeCells _ _)
 rw[show ((w.alloc (Obj.cells #[Value.slice ad X.cz.length cap,Value.slice adh X.heap.length caph,Value.int .i64 X.ez] 26)).alloc (Obj.cells #[Value.slice none 0 0,Value.slice none 0 0,Value.int .i64 0] 26)).heap.size=w.heap.size+1+1 by simp] at hS0
 go_loopg [13] X.cz.length (fun g c wr=>∃ j:Nat,j+g=X.cz.length/\c=.int .i64 j/\Below (w.heap.size+1+1) ((w.alloc (Obj.cells #[Value.slice ad X.cz.length cap,Value.slice adh X.heap.length caph,Value.int .i64 X.ez] 26)).alloc (Obj.cells #[Value.slice none 0 0,Value.slice none 0 0,Value.int .i64 0] 26)) wr/\∃ s,OwnC wr (w.heap.size+1+1) X.cz s j)
 case atStart=>exact⟨0,by omega,rfl,(Below.refl _ _).alloc (by simp) _,_,hS0⟩
 case round=>
  obtain⟨j,hj,rfl,hbel,s,hst⟩:=hrel;clear hmk hS0;have hbw:Below w.heap.size w wr:=(xbp _ _ _).trans (hbel.mono (by omega))
  have hz:w.heap.size+1+1<wr.heap.size:=by obtain⟨⟨cur,k,-⟩,-⟩:=hst;exact xam k
  by_cases hlt:j<X.cz.length
  ·obtain⟨b,o,rfl,-,hv0,hv1,hv2,hsz,sv,hv4,hsl⟩:=hrow j X.cz[j] (by simp[hlt])
   have hxj:Hid (X.cz[j]?=some X.cz[j]):=by show _=_;simp[hlt]
   generalize X.cz[j]=x at *;simp only[Nat.add_zero] at hv0;have u0:=qzA hbw hv0;have u1:=qzA hbw hv1;have u2:=qzA hbw hv2;have u4:=qzA hbw hv4;have hsl2:=hsl.later xbj hbw;obtain⟨ad2,cap2,rfl,-,-,hby2,-⟩:=id hsl2;clear hv0 hv1 hv2 hv4 hsl hrow;have hj1:(j:Int)<(X.cz.length:Int):=by omega
   have hj0:(0:Int)<=(j:Int):=by omega
   go_wp2_with fail;refine (xgy x.mz _ _ (hsl2.later xbj (xai _ _))).mono ?_;rintro e w1 ⟨g',rfl,hM,hg',hb⟩;obtain⟨hc,hf⟩:=xfQ hb;have h5:s j<=wr.heap.size:=hst.2.2.2.1;replace hst:=(hst.later (xai _ _)).later hb;have hg2:wr.heap.size+1<=g':=by simpa using hg'
   have hz1:wr.heap.size+1<=w1.heap.size:=by have:=hb.size;simpa using this
   replace hst:=hst.set h5 3 (.slice (some ⟨g',0,none⟩) x.mz.length x.mz.length);replace hM:=hM.set (d:=wr.heap.size) xbj (by omega) 3 (.slice (some ⟨g',0,none⟩) x.mz.length x.mz.length)
   have hz2:(w1.setCell ⟨wr.heap.size,3,none⟩ (.slice (some ⟨g',0,none⟩) x.mz.length x.mz.length)).heap.size=w1.heap.size:=by simp
   have d3:(w1.setCell ⟨wr.heap.size,3,none⟩ (.slice (some ⟨g',0,none⟩) x.mz.length x.mz.length)).cell? ⟨wr.heap.size,3,none⟩=some (.slice (some ⟨g',0,none⟩) x.mz.length x.mz.length):=xa9 (v:=.slice ad2 x.mz.length cap2) (by rw[hc _ _ (by simp)];simp) _
   obtain⟨⟨cur,k1,k2⟩,k3⟩:=id hst;have f1:∀ o,(w1.setCell ⟨wr.heap.size,3,none⟩ (.slice (some ⟨g',0,none⟩) x.mz.length x.mz.length)).frozen? ⟨w.heap.size+1+1,o,none⟩=false:=fun o=>(by simp only[World.frozen?,k1];simp)
   have f2:∀ o,w1.frozen? ⟨w.heap.size+1+1,o,none⟩=false:=fun o=>(by rw[← World.frozen?_setCell (a:=⟨wr.heap.size,3,none⟩) (v:=(.slice (some ⟨g',0,none⟩) x.mz.length x.mz.length))];exact f1 o)
   have ex:∀ o,o<X.cz.length*4->∃ u,w1.cell? ⟨w.heap.size+1+1,o,none⟩=some u:=fun o ho=>by
    have:=World.cell?_setCell_far w1 ⟨wr.heap.size,3,none⟩ ⟨w.heap.size+1+1,o,none⟩ (.slice (some ⟨g',0,none⟩) x.mz.length x.mz.length) (by simp;omega)
    rw[qzB k1] at this
    exact⟨cur[o]'(by omega),by rw[← this];simp⟩
   obtain⟨y0,e0⟩:=ex (j*4) (by omega)
   obtain⟨y1,e1⟩:=ex (j*4+1) (by omega)
   obtain⟨y2,e2⟩:=ex (j*4+2) (by omega)
   obtain⟨y3,e3⟩:=ex (j*4+3) (by omega)
   have hne:¬ wr.heap.size=w.heap.size+1+1:=by omega
   have hne':¬ w.heap.size+1+1=wr.heap.size:=by omega
   clear k1 k2 k3;go_wp2
   go_roundg (gk-1)
   case measure=>omega
   case rel=>
    obtain⟨s',hs'⟩:=hst.step hxj.out hsz (by omega) hM hby2
    refine⟨j+1,by omega,by go_num,?_,s',hs'⟩
    exact (((((hbel.trans (((xai _ _).trans (hb.mono (by simp))).mono (by omega))).setCell (by simp;omega) _).setCell (by simp) _).setCell (by simp) _).setCell (by simp) _).setCell (by simp) _
  ·obtain rfl:j=X.cz.length:=by omega
   have q1:wr.drew.cell? ⟨w.heap.size,1,none⟩=some (Value.slice adh X.heap.length caph):=by
    show wr.cell? _=_
    rw[hbel.cell (by simp;omega)];simp
   have q2:wr.drew.cell? ⟨w.heap.size,2,none⟩=some (.int .i64 X.ez):=by
    show wr.cell? _=_
    rw[hbel.cell (by simp;omega)];simp
   have r0:wr.drew.cell? ⟨w.heap.size+1,0,none⟩=some (Value.slice none 0 0):=by
    show wr.cell? _=_
    rw[hbel.cell (by simp)];simp
   have r1:wr.drew.cell? ⟨w.heap.size+1,1,none⟩=some (Value.slice none 0 0):=by
    show wr.cell? _=_
    rw[hbel.cell (by simp)];simp
   have r2:wr.drew.cell? ⟨w.heap.size+1,2,none⟩=some (.int .i64 0):=by
    show wr.cell? _=_
    rw[hbel.cell (by simp)];simp
   have rf:∀ o,wr.drew.frozen? ⟨w.heap.size+1,o,none⟩=false:=fun o=>by
    show wr.frozen? _=_
    rw[hbel.frozen (by simp)];simp
   have hH:=h2.later xaB hbw.drew;have hst1:=hst.later (Below.refl _ _).drew;have hs5:s X.cz.length<=wr.drew.heap.size:=hst1.2.2.2.1;have hzd:w.heap.size+1+1<wr.drew.heap.size:=hz;have hbd:=hbw.drew;clear hst hW hrow hrowh hbel hbw h2;go_wp2_with fail
   go_region_held3 (fun w'=>w'.cell? ⟨w.heap.size,1,none⟩=some (Value.slice adh X.heap.length caph)/\w'.cell? ⟨w.heap.size,2,none⟩=some (.int .i64 X.ez)) (first | exact⟨q1,q2⟩ | exact⟨d1,d2⟩ | exact⟨(World.cell?_setCell_other _ _ _ _ (by first | (simp;done) | (simp;omega))).trans ((World.cell?_setCell_other _ _ _ _ (by first | (simp;done) | (simp;omega))).trans ((World.cell?_setCell_other _ _ _ _ (by first | (simp;done) | (simp;omega))).trans d1)),(World.cell?_setCell_other _ _ _ _ (by first | (simp;done) | (simp;omega))).trans ((World.cell?_setCell_other _ _ _ _ (by first | (simp;done) | (simp;omega))).trans ((World.cell?_setCell_other _ _ _ _ (by first | (simp;done) | (simp;omega))).trans d2))⟩)
    (first | (go_at_call 49;refine (xlx X.heap _ _ hH).mono ?_;rintro e w1 ⟨gh,sh,rfl,hown,hgh,hb1⟩;have d1:=qzA hb1 q1;have d2:=qzA hb1 q2;have t0:=qzA hb1 r0;have t1:=qzA hb1 r1;have t2:=qzA hb1 r2;have tf:∀ o,w1.frozen? ⟨w.heap.size+1,o,none⟩=false:=fun o=>(hb1.frozen (by simp;omega)).trans (rf o)))
   go_wp2;have hst2:=hst1.later hb1;refine bodyPost_ret (v:=WV (.slice (some ⟨w.heap.size+1+1,0,none⟩) X.cz.length X.cz.length) (.slice (some ⟨gh,0,none⟩) X.heap.length X.heap.length) X.ez) ?_ rfl ⟨_,gh,s,rfl,?_,⟨sh,?_⟩,by omega,by omega,?_⟩
   ·simp[results,Tryz.results32,go_sem,t0,t1,t2]
   ·exact ((hst2.setLow (by omega) _ _).setLow (by omega) _ _).setLow (by omega) _ _
   ·exact ((hown.setLow (by omega) _ _).setLow (by omega) _ _).setLow (by omega) _ _
   ·exact (((xaf hbd hb1).setCell (by simp) _).setCell (by simp) _).setCell (by simp) _
section
variable {σ:Type} {p:Mp σ} {T T':Nat->Nat} {w w':World} {mb:Nat} {m m':Mc σ} {calls calls':Int} {hv:Value} {g:Nat} {s:Nat->Nat} {K fb:Nat} {f:Fr} {cv av tv sv kv:Value}
theorem HeapSt.slots {xs:List QO}(h:HeapSt T w hv g s xs){i:Nat}{x:QO}(hx:xs[i]?=some x){vs:List QV}(k:Kp (fun t=>t=1) (fun b=>if b=s i then 1 else 0) w w')(hn:w'.heap[s i]?=some (.cells (xaA vs).toArray 41 (0,0)))(hl:vs.length=x.slots.length):HeapSt T w' hv g s (xs.set i ⟨x.cls,vs⟩):=by
 have hi:=xad hx;obtain⟨e1,e2,e3,e4,e5,e6⟩:=h.obj i x hx;have hk:∀ b,b<w.heap.size->b≠s i->w'.heap[b]?=w.heap[b]?:=fun b hb hne=>k.blk b hb (by simp[hne])
 have hc:∀ o u,w.cell? ⟨g,o,none⟩=some u->w'.cell? ⟨g,o,none⟩=some u:=fun o u hu=>by
  unfold World.cell? at hu ⊢;rw[hk g h.there (Ne.symm e5)];exact hu
 refine⟨by simpa using h.form,by simpa using h.len,qzE h.there k.size,h.tg,fun j y hy=>?_,fun a b ha hb=>h.inj a b (by simpa using ha) (by simpa using hb)⟩
 by_cases hj:j=i
 ·subst hj;rw[List.getElem?_set_self hi] at hy
  cases hy
  exact⟨hc _ _ e1,by rw[hl];exact hc _ _ e2,hn,e4,e5,by rw[hl];exact e6⟩
 ·rw[List.getElem?_set_ne (by omega)] at hy
  obtain⟨d1,d2,d3,d4,d5,d6⟩:=h.obj j y hy
  exact⟨hc _ _ d1,hc _ _ d2,by rw[hk _ (xam d3) fun e=>hj (h.inj j i (xad hy) hi e)];exact d3,d4,d5,d6⟩
theorem xhb (h:MacAt p T w mb m calls hv g s)(v:QV)(n:Int)(x:QV):Calls Tryz.prog 274 #[.pointer (some ⟨mb,0,none⟩),VV v,.int .i64 n,VV x] w fun e w'=>e=.returned (.tuple #[])/\(∃ T',Ext T T' w/\MacAt p T' w' mb { m with heap:=xbr m.heap v n x } calls hv g s)/\Kp (fun t=>t=2) T w w':=by
 have hlt:=xam h.box;have hb2:=xbp w (.cells #[.int .i64 v.k,.int .i64 v.n] 41) (.cells #[.int .i64 x.k,.int .i64 x.n] 41);have hM:=(h.tagged0 4).later hb2;have hX:=xaQ T w 4;have hT4:∀ b,w.heap.size<=b->xbc T w 4 b=4:=fun b hb=>xba hb
 have b0:((w.alloc (.cells #[.int .i64 v.k,.int .i64 v.n] 41)).alloc (.cells #[.int .i64 x.k,.int .i64 x.n] 41)).cell? ⟨w.heap.size,0,none⟩=some (.int .i64 v.k):=qzA (xai _ _) (xab _ _ _ _ rfl 0);have b1:((w.alloc (.cells #[.int .i64 v.k,.int .i64 v.n] 41)).alloc (.cells #[.int .i64 x.k,.int .i64 x.n] 41)).cell? ⟨w.heap.size,1,none⟩=some (.int .i64 v.n):=qzA (xai _ _) (xab _ _ _ _ rfl 1);have x0:((w.alloc (.cells #[.int .i64 v.k,.int .i64 v.n] 41)).alloc (.cells #[.int .i64 x.k,.int .i64 x.n] 41)).cell? ⟨w.heap.size+1,0,none⟩=some (.int .i64 x.k):=xab _ _ _ _ (by simp) 0
 have x1:((w.alloc (.cells #[.int .i64 v.k,.int .i64 v.n] 41)).alloc (.cells #[.int .i64 x.k,.int .i64 x.n] 41)).cell? ⟨w.heap.size+1,1,none⟩=some (.int .i64 x.n):=xab _ _ _ _ (by simp) 1
 clear h;generalize xbc T w 4=T1 at *;go_enter Tryz.func274,Tryz.ntmps274
 go_upto_region 1 with (fail)
 generalize ((w.alloc (.cells #[.int .i64 v.k,.int .i64 v.n] 41)).alloc (.cells #[.int .i64 x.k,.int .i64 x.n] 41))=W at *;have c1:=hM.c1;obtain⟨cap,rfl,hc1,hc2⟩:=hM.heap.form;unfold maxLen at hc2;have KW:Hid (Kp (fun t=>t=2) T w W):=Kp.of_below hb2
 have HM:=hid hM
 cases hi:xhq m.heap.length v with
 | false=>
  have HN:Hid (xbr m.heap v n x=m.heap):=by show _=_;unfold xbr;rw[xiw hi]
  have HD:Hid ((∃ T',Ext T T' w/\MacAt p T' W.drew mb { m with heap:=xbr m.heap v n x } calls (.slice (some ⟨g,0,none⟩) m.heap.length cap) g s)/\Kp (fun t=>t=2) T w W.drew):=⟨⟨T1,hX,by rw[HN.out];exact hM.later (Below.refl _ _).drew⟩,KW.out.drew⟩
  clear hM hb2;unfold xhq at hi;simp only[decide_eq_false_iff_not] at hi
  by_cases hk:v.k=4
  ·have hk':(v.k == 4)=true:=by simpa using hk
   by_cases hn:v.n<0
   ·have hn':decide (0<=v.n)=false:=by simpa using hn
    clear hi
    go_region
    go_wp2
    exact bodyPost_end (v:=.tuple #[]) (by simp[results,Tryz.results274,go_sem]) rfl ⟨rfl,HD.out⟩
   ·have hn':decide (0<=v.n)=true:=by simpa using hn
    have hl:decide (v.n<(m.heap.length:Int))=false:=by simp;omega
    clear hi
    go_region
    go_wp2
    exact bodyPost_end (v:=.tuple #[]) (by simp[results,Tryz.results274,go_sem]) rfl ⟨rfl,HD.out⟩
  ·have hk':(v.k == 4)=false:=by simpa using hk
   clear hi
   go_region
   go_wp2
   exact bodyPost_end (v:=.tuple #[]) (by simp[results,Tryz.results274,go_sem]) rfl ⟨rfl,HD.out⟩
 | true=>
  obtain⟨j,o,hj,hjl,hjo,hob⟩:=xle hi;have hk:v.k=4:=by unfold xhq at hi;simp only[decide_eq_true_eq] at hi;exact hi.1
  have hk':(v.k == 4)=true:=by simpa using hk
  have HN:Hid (xbr m.heap v n x=m.heap.set j ⟨o.cls,xaP o.slots n x⟩):=by show _=_;unfold xbr;rw[hob];simp[hj]
  obtain⟨e1,e2,e3,e4,e5,e6⟩:=hM.heap.obj j o hjo;have HJ:=hid hjo;rw[hj] at b1;have hj1:(j:Int)<(m.heap.length:Int):=by omega
  have hj0:(0:Int)<=(j:Int):=by omega
  have n1:¬ mb=s j:=fun e=>by have:=hM.tag;rw[e,e4] at this;omega
  have n2:¬ w.heap.size=s j:=fun e=>by have:=hT4 w.heap.size (qzC _);rw[e,e4] at this;omega
  have n3:¬ w.heap.size+1=s j:=fun e=>by have:=hT4 (w.heap.size+1) (by omega);rw[e,e4] at this;omega
  have n4:¬ g=s j:=Ne.symm e5;have HE3:Hid (W.drew.drew.heap[s j]?=some (.cells (xaA o.slots).toArray 41 (0,0))):=e3;have hS0:W.drew.drew.cell? ⟨mb,1,none⟩=some (.slice (some ⟨g,0,none⟩) m.heap.length cap)/\W.drew.drew.cell? ⟨w.heap.size,1,none⟩=some (.int .i64 (j:Int))/\W.drew.drew.cell? ⟨w.heap.size+1,0,none⟩=some (.int .i64 x.k)/\W.drew.drew.cell? ⟨w.heap.size+1,1,none⟩=some (.int .i64 x.n)/\W.drew.drew.cell? ⟨g,j*2+1,none⟩=some (.slice (some ⟨s j,0,none⟩) o.slots.length o.slots.length):=⟨c1,b1,x0,x1,e2⟩;have HT:=hid e4;clear hi hj hob hb2 hk e1 e3 e4 e5 e6 hM hjo
  go_region
  go_wp2;clear b0 b1 x0 x1 c1 e2;have hent:Calls Tryz.prog 273 #[.slice (some ⟨s j,0,none⟩) o.slots.length o.slots.length,.int .i64 n,VV x] W.drew.drew _:=xf1 o.slots (s j) n x _ HE3.out
  go_region_held3 (fun w'=>w'.cell? ⟨mb,1,none⟩=some (.slice (some ⟨g,0,none⟩) m.heap.length cap)/\w'.cell? ⟨w.heap.size,1,none⟩=some (.int .i64 (j:Int))/\w'.cell? ⟨w.heap.size+1,0,none⟩=some (.int .i64 x.k)/\w'.cell? ⟨w.heap.size+1,1,none⟩=some (.int .i64 x.n)/\w'.cell? ⟨g,j*2+1,none⟩=some (.slice (some ⟨s j,0,none⟩) o.slots.length o.slots.length))
   (first | with_reducible exact hS0 | with_reducible exact hS1)
   (first | (go_at_call 273;refine hent.mono ?_;rintro e w1 ⟨rfl,hw1,hz1,hka⟩;have k1:=hka (fun t=>t=1) (fun b=>if b=s j then 1 else 0) (by simp);have hS1:=And.intro (k1.cell hS0.1 (by simp[n1])) (And.intro (k1.cell hS0.2.1 (by simp[n2])) (And.intro (k1.cell hS0.2.2.1 (by simp[n3])) (And.intro (k1.cell hS0.2.2.2.1 (by simp[n3])) (k1.cell hS0.2.2.2.2 (by simp[n4])))))))
  go_wp2;have kT:=hka (fun t=>t=2) T1 HT.out
  refine bodyPost_end (v:=.tuple #[]) (by simp[results,Tryz.results274,go_sem]) rfl ⟨rfl,⟨T1,hX,?_⟩,?_⟩
  ·have hm:=HM.out.later (w':=W.drew.drew) ((Below.refl _ _).drew).drew;refine⟨kT.held hm.box (by rw[hm.tag];omega),hm.tag,?_,hm.cls.fx xax (.refl _ _) kT (by omega)⟩
   rw[HN.out]
   exact hm.heap.slots HJ.out k1 hw1 (xbN _ _ _)
  ·exact KW.out.trans hX (((Kp.refl _ _ _).drew.drew).trans (.refl _ _) kT)
end
section
variable {σ:Type} {p:Mp σ} {T T':Nat->Nat} {w w':World} {mb:Nat} {m m':Mc σ} {calls calls':Int} {hv:Value} {g:Nat} {s:Nat->Nat} {K fb:Nat} {f:Fr} {cv av tv sv kv:Value}
theorem xpY (h:FrAt T K w fb f cv av tv sv kv)(a:Int)(x:QI):Calls Tryz.prog 282 #[.pointer (some ⟨fb,0,none⟩),.int .i64 a,IV x] w fun e w'=>e=.returned (SV (f.site a x))/\Below w.heap.size w w':=by
 have hlt:=xam h.box;have hb2:=xbp w (.cells #[.int .i64 x.op,.int .i64 x.a,.int .i64 x.b,.int .i64 x.c,.string x.name] 69) (.cells #[.int .i64 0,.string ⟨#[]⟩,.int .i64 0] 105);have h2:=h.later hb2;have x3:((w.alloc (.cells #[.int .i64 x.op,.int .i64 x.a,.int .i64 x.b,.int .i64 x.c,.string x.name] 69)).alloc (.cells #[.int .i64 0,.string ⟨#[]⟩,.int .i64 0] 105)).cell? ⟨w.heap.size,3,none⟩=some (.int .i64 x.c):=qzA (xai _ _) (xab _ _ _ _ rfl 3);have r0:((w.alloc (.cells #[.int .i64 x.op,.int .i64 x.a,.int .i64 x.b,.int .i64 x.c,.string x.name] 69)).alloc (.cells #[.int .i64 0,.string ⟨#[]⟩,.int .i64 0] 105)).cell? ⟨w.heap.size+1,0,none⟩=some (.int .i64 0):=xab _ _ _ _ (by simp) 0
 have r1:((w.alloc (.cells #[.int .i64 x.op,.int .i64 x.a,.int .i64 x.b,.int .i64 x.c,.string x.name] 69)).alloc (.cells #[.int .i64 0,.string ⟨#[]⟩,.int .i64 0] 105)).cell? ⟨w.heap.size+1,1,none⟩=some (.string ⟨#[]⟩):=xab _ _ _ _ (by simp) 1
 have r2:((w.alloc (.cells #[.int .i64 x.op,.int .i64 x.a,.int .i64 x.b,.int .i64 x.c,.string x.name] 69)).alloc (.cells #[.int .i64 0,.string ⟨#[]⟩,.int .i64 0] 105)).cell? ⟨w.heap.size+1,2,none⟩=some (.int .i64 0):=xab _ _ _ _ (by simp) 2
 have rf:∀ o,((w.alloc (.cells #[.int .i64 x.op,.int .i64 x.a,.int .i64 x.b,.int .i64 x.c,.string x.name] 69)).alloc (.cells #[.int .i64 0,.string ⟨#[]⟩,.int .i64 0] 105)).frozen? ⟨w.heap.size+1,o,none⟩=false:=fun o=>xaq (cur:=#[.int .i64 0,.string ⟨#[]⟩,.int .i64 0]) (t:=105) (by have:=heap_alloc_new (w.alloc (.cells #[.int .i64 x.op,.int .i64 x.a,.int .i64 x.b,.int .i64 x.c,.string x.name] 69)) (.cells #[.int .i64 0,.string ⟨#[]⟩,.int .i64 0] 105);simpa using this) o
 clear h;go_enter Tryz.func282,Tryz.ntmps282
 go_upto_region 1 with (fail)
 generalize ((w.alloc (.cells #[.int .i64 x.op,.int .i64 x.a,.int .i64 x.b,.int .i64 x.c,.string x.name] 69)).alloc (.cells #[.int .i64 0,.string ⟨#[]⟩,.int .i64 0] 105))=W at *;have c0:W.cell? ⟨fb,0,none⟩=some (.int .i64 f.cls):=by rw[qzB h2.box];rfl
 have c1:W.cell? ⟨fb,1,none⟩=some (.string f.meth.name):=by rw[qzB h2.box];rfl
 have c13:W.cell? ⟨fb,13,none⟩=some (.bool f.fast):=by rw[qzB h2.box];rfl
 have hne:¬ fb=w.heap.size+1:=by omega
 have hne':¬ w.heap.size+1=fb:=by omega
 have HB:=hid hb2;clear h2 hb2
 cases hf:f.fast with
 | false=>
  have HS:Hid (f.site a x=⟨f.cls,f.meth.name,a⟩):=by show _=_;unfold Fr.site;rw[hf];rfl
  rw[hf] at c13;go_wp2
  go_region
  all_goals (
   go_wp2;refine bodyPost_ret (v:=SV ⟨f.cls,f.meth.name,a⟩) ?_ rfl ⟨by rw[HS.out],(((HB.out.setCell (by simp) _).setCell (by simp) _).setCell (by simp) _).drew⟩
   simp[results,Tryz.results282,go_sem,r0,r1,r2])
 | true=>
  have HS:Hid (f.site a x=⟨f.cls,f.meth.name,x.c⟩):=by show _=_;unfold Fr.site;rw[hf];rfl
  rw[hf] at c13;go_wp2
  go_region
  all_goals (
   go_wp2;refine bodyPost_ret (v:=SV ⟨f.cls,f.meth.name,x.c⟩) ?_ rfl ⟨by rw[HS.out],(((HB.out.setCell (by simp) _).setCell (by simp) _).setCell (by simp) _).drew⟩
   simp[results,Tryz.results282,go_sem,r0,r1,r2])
abbrev FaV (c:Int)(nm:ByteArray)(e t:Int)(kv:Value):Value:=.agg #[.int .i64 c,.string nm,.int .i64 e,.int .i64 t,kv]
theorem xqc (h:w.heap[fb]?=some (FB f cv av tv sv kv))(tv' kv':Value)(t:List QV)(c:List QI):((w.setCell ⟨fb,11,none⟩ kv').setCell ⟨fb,9,none⟩ tv').heap[fb]?=some (FB { f with temps:=t,code:=c } cv av tv' sv kv'):=by
 rw[xae (xae h _)];rfl
theorem xn7 (h:w.heap[fb]?=some (FB f cv av tv sv kv))(tv' kv':Value)(t:List QV)(c:List QI):(((w.setCell ⟨fb,11,none⟩ kv').setCell ⟨fb,9,none⟩ tv').setCell ⟨fb,13,none⟩ (.bool true)).heap[fb]?=some (FB { f with temps:=t,code:=c,fast:=true } cv av tv' sv kv'):=by
 rw[xae (xae (xae h _) _)];rfl
structure FrNew (T:Nat->Nat)(K:Nat)(w:World)(fb:Nat)(f:Fr)(cv av:Value):Prop where
 box:w.heap[fb]?=some (FB f cv av (.slice none 0 0) (.slice none 0 0) (.slice none 0 0))
 tag:T fb=K
 args:xaV (Fx T w) w av f.args
 meth:xaG (Fx T w) w cv f.meth.code
 pos:5<=K
 stack:f.stack=[]
theorem xfN (n:Int):(xaC n).length<=40:=by unfold xaC;simp;omega
theorem FrNew.begun {w1 w2:World}{tb:Nat}{t:List QV}{c:List QI}{fl:Bool}(h:FrNew T K w fb f cv av)(hb:Below w.heap.size w w1)(htb:w1.heap[tb]?=some (.cells (xaA t).toArray 41 (0,0)))(hl:t.length<=40)(hg:w.heap.size<=tb)(k:Kp (fun t=>t=1) (fun b=>if b=fb then 1 else 0) w1 w2)(hx:w2.heap[fb]?=some (FB { f with temps:=t,code:=c,fast:=fl } cv av (.slice (some ⟨tb,0,none⟩) t.length t.length) (.slice none 0 0) kv))(hk:xaG (Fx T w) w kv c) :
  ∃ T',Ext T T' w/\FrAt T' K w2 fb { f with temps:=t,code:=c,fast:=fl } cv av (.slice (some ⟨tb,0,none⟩) t.length t.length) (.slice none 0 0) kv/\Kp (fun t=>t=K) T w w2:=by
 have hlt:=xam h.box;have hp:=h.pos;have e:Ext T (xla T tb (K+1)) w:=xgj hg
 have kw:Kp (fun t=>t=K) T w w2:=⟨k.os.trans hb.os,k.tape.trans hb.tape,k.output.trans hb.output,qzD hb.size k.size,fun b hb1 hs=>by
  rw[k.blk b (qzE hb1 hb.size) (by have:b≠fb:=fun e=>hs (by rw[e];exact h.tag);simp[this]),hb.block b hb1]⟩
 refine⟨xla T tb (K+1),e,⟨hx,by rw[e _ hlt];exact h.tag,h.args.fx xa7 e kw (by omega),⟨tb,rfl,?_,xfg _ _ _,hl⟩,?_,(fun g hg=>by cases hg),?_,hk.fx xaU e kw (by omega),h.meth.fx xaU e kw (by omega),hp⟩,kw⟩
 ·exact k.held htb (by
   have:tb≠fb:=by omega
   simp[this])
 ·show ownsAt w2 0 41 2 _ f.stack.length (xaA f.stack)
  rw[h.stack]
  exact⟨rfl,Or.inl ⟨rfl,rfl⟩⟩
 ·show f.stack.length<=_
  rw[h.stack];simp
theorem xkt (h:FrNew T K w fb f cv av)(hf:f.fast=false)(qv:Value)(qc:Int)(qn:ByteArray)(qe qt:Int):Calls Tryz.prog 231 #[.pointer (some ⟨fb,0,none⟩),FaV qc qn qe qt qv,.bool false] w fun e w'=>e=.returned (.tuple #[])/\∃ T' tv sv kv,Ext T T' w/\FrAt T' K w' fb { f with temps:=xaC f.meth.temps,code:=f.meth.code,fast:=false } cv av tv sv kv/\Kp (fun t=>t=K) T w w':=by
 have hlt:=xam h.box;have hb1:Below w.heap.size w (w.alloc (.cells #[.int .i64 qc,.string qn,.int .i64 qe,.int .i64 qt,qv] 187)).drew:=(xai _ _).drew;have hx:=xaa h.box hb1;have hS0:(w.alloc (.cells #[.int .i64 qc,.string qn,.int .i64 qe,.int .i64 qt,qv] 187)).drew.cell? ⟨fb,5,none⟩=some cv/\(w.alloc (.cells #[.int .i64 qc,.string qn,.int .i64 qe,.int .i64 qt,qv] 187)).drew.cell? ⟨fb,3,none⟩=some (.int .i64 f.meth.temps):=⟨by rw[qzB hx];rfl,by rw[qzB hx];rfl⟩
 obtain⟨a,cap,rfl,-⟩:=id h.meth;have H:=hid h;have HX:=hid hx;have HB:=hid hb1;have HFF:Hid (∀ t c,({ f with temps:=t,code:=c }:Fr)={ f with temps:=t,code:=c,fast:=false }):=fun t c=>by rw[hf]
 clear h hx hb1 hf;go_enter Tryz.func231,Tryz.ntmps231
 go_upto_region 1 with (fail)
 generalize (w.alloc (.cells #[.int .i64 qc,.string qn,.int .i64 qe,.int .i64 qt,qv] 187))=W at *;go_wp2
 go_region_held3 (fun w'=>w'.cell? ⟨fb,5,none⟩=some (.slice a f.meth.code.length cap)/\w'.cell? ⟨fb,3,none⟩=some (.int .i64 f.meth.temps))
  (first | with_reducible exact hS0 | with_reducible exact hS1 | exact⟨(World.cell?_setCell_other _ _ _ _ (by simp)).trans hS1.1,(World.cell?_setCell_other _ _ _ _ (by simp)).trans hS1.2⟩ | exact⟨(World.cell?_setCell_other _ _ _ _ (by simp)).trans ((World.cell?_setCell_other _ _ _ _ (by simp)).trans hS1.1),(World.cell?_setCell_other _ _ _ _ (by simp)).trans ((World.cell?_setCell_other _ _ _ _ (by simp)).trans hS1.2)⟩)
  (first | (go_at_call 256;refine (xhm f.meth.temps _).mono ?_;rintro e w1 ⟨tb,rfl,htb,hgt,hb1⟩;have hS1:=And.intro (qzA hb1 hS0.1) (qzA hb1 hS0.2);have hx1:=xaa HX.out hb1;have df:=xaq hx1;have d11:w1.cell? ⟨fb,11,none⟩=some (.slice none 0 0):=(by rw[qzB hx1];rfl);have d9:w1.cell? ⟨fb,9,none⟩=some (.slice none 0 0):=(by rw[qzB hx1];rfl);have HX1:=hid hx1;clear hx1))
 all_goals (
  go_wp2;have k:Kp (fun t=>t=1) (fun b=>if b=fb then 1 else 0) w1 ((w1.setCell ⟨fb,11,none⟩ (.slice a f.meth.code.length cap)).setCell ⟨fb,9,none⟩ (.slice (some ⟨tb,0,none⟩) (xaC f.meth.temps).length (xaC f.meth.temps).length)):=((Kp.refl _ _ _).set (fun _=>by simp) _ _).set (fun _=>by simp) _ _
  have hx2:=xqc HX1.out (.slice (some ⟨tb,0,none⟩) (xaC f.meth.temps).length (xaC f.meth.temps).length) (.slice a f.meth.code.length cap) (xaC f.meth.temps) f.meth.code;rw[HFF.out (xaC f.meth.temps) f.meth.code] at hx2;obtain⟨T',q1,q2,q3⟩:=H.out.begun (xaf HB.out hb1) htb (xfN _) (qzD HB.out.size hgt) k hx2 H.out.meth
  exact bodyPost_end (v:=.tuple #[]) (by simp[results,Tryz.results231,go_sem]) rfl ⟨rfl,T',_,_,_,q1,q2,q3⟩)
theorem xl9 (h:FrNew T K w fb f cv av)(qv:Value)(qc:Int)(qn:ByteArray)(qe qt:Int)(code:List QI)(hq:xaG (Fx T w) w qv code):Calls Tryz.prog 231 #[.pointer (some ⟨fb,0,none⟩),FaV qc qn qe qt qv,.bool true] w fun e w'=>e=.returned (.tuple #[])/\∃ T' tv sv kv,Ext T T' w/\FrAt T' K w' fb { f with temps:=xaC qt,code:=code,fast:=true } cv av tv sv kv/\Kp (fun t=>t=K) T w w':=by
 have hlt:=xam h.box;have hb1:Below w.heap.size w (w.alloc (.cells #[.int .i64 qc,.string qn,.int .i64 qe,.int .i64 qt,qv] 187)).drew:=(xai _ _).drew;have hx:=xaa h.box hb1;have hS0:(w.alloc (.cells #[.int .i64 qc,.string qn,.int .i64 qe,.int .i64 qt,qv] 187)).drew.cell? ⟨w.heap.size,4,none⟩=some qv/\(w.alloc (.cells #[.int .i64 qc,.string qn,.int .i64 qe,.int .i64 qt,qv] 187)).drew.cell? ⟨w.heap.size,3,none⟩=some (.int .i64 qt):=⟨xab w #[.int .i64 qc,.string qn,.int .i64 qe,.int .i64 qt,qv] 187 _ rfl 4,xab w #[.int .i64 qc,.string qn,.int .i64 qe,.int .i64 qt,qv] 187 _ rfl 3⟩;have H:=hid h;have HX:=hid hx
 have HB:=hid hb1;have HQ:=hid hq;have hne:¬ w.heap.size=fb:=by omega
 have hne':¬ fb=w.heap.size:=by omega
 obtain⟨a,cap,rfl,-⟩:=id hq;clear h hx hb1 hq;go_enter Tryz.func231,Tryz.ntmps231
 go_upto_region 1 with (fail)
 generalize (w.alloc (.cells #[.int .i64 qc,.string qn,.int .i64 qe,.int .i64 qt,.slice a code.length cap] 187))=W at *;go_wp2
 go_region_held3 (fun w'=>w'.cell? ⟨w.heap.size,4,none⟩=some (.slice a code.length cap)/\w'.cell? ⟨w.heap.size,3,none⟩=some (.int .i64 qt))
  (first | with_reducible exact hS0 | with_reducible exact hS1 | exact⟨(World.cell?_setCell_far _ _ _ _ (by simp;omega)).trans hS1.1,(World.cell?_setCell_far _ _ _ _ (by simp;omega)).trans hS1.2⟩ | exact⟨(World.cell?_setCell_far _ _ _ _ (by simp;omega)).trans ((World.cell?_setCell_far _ _ _ _ (by simp;omega)).trans hS1.1),(World.cell?_setCell_far _ _ _ _ (by simp;omega)).trans ((World.cell?_setCell_far _ _ _ _ (by simp;omega)).trans hS1.2)⟩ | exact⟨(World.cell?_setCell_far _ _ _ _ (by simp;omega)).trans ((World.cell?_setCell_far _ _ _ _ (by simp;omega)).trans ((World.cell?_setCell_far _ _ _ _ (by simp;omega)).trans hS1.1)),(World.cell?_setCell_far _ _ _ _ (by simp;omega)).trans ((World.cell?_setCell_far _ _ _ _ (by simp;omega)).trans ((World.cell?_setCell_far _ _ _ _ (by simp;omega)).trans hS1.2))⟩)
  (first | (go_at_call 256;refine (xhm qt _).mono ?_;rintro e w1 ⟨tb,rfl,htb,hgt,hb1⟩;have hS1:=And.intro (qzA hb1 hS0.1) (qzA hb1 hS0.2);have hx1:=xaa HX.out hb1;have df:=xaq hx1;have d11:w1.cell? ⟨fb,11,none⟩=some (.slice none 0 0):=(by rw[qzB hx1];rfl);have d9:w1.cell? ⟨fb,9,none⟩=some (.slice none 0 0):=(by rw[qzB hx1];rfl);have d13:w1.cell? ⟨fb,13,none⟩=some (.bool f.fast):=(by rw[qzB hx1];rfl);have HX1:=hid hx1;clear hx1))
 all_goals (
  go_wp2;have k:Kp (fun t=>t=1) (fun b=>if b=fb then 1 else 0) w1 (((w1.setCell ⟨fb,11,none⟩ (.slice a code.length cap)).setCell ⟨fb,9,none⟩ (.slice (some ⟨tb,0,none⟩) (xaC qt).length (xaC qt).length)).setCell ⟨fb,13,none⟩ (.bool true)):=(((Kp.refl _ _ _).set (fun _=>by simp) _ _).set (fun _=>by simp) _ _).set (fun _=>by simp) _ _
  have hx2:=xn7 HX1.out (.slice (some ⟨tb,0,none⟩) (xaC qt).length (xaC qt).length) (.slice a code.length cap) (xaC qt) code;obtain⟨T',q1,q2,q3⟩:=H.out.begun (xaf HB.out hb1) htb (xfN _) (qzD HB.out.size hgt) k hx2 HQ.out
  exact bodyPost_ret (v:=.tuple #[]) (by simp[results,Tryz.results231,go_sem]) rfl ⟨rfl,T',_,_,_,q1,q2,q3⟩)
end
section
variable {σ:Type} {p:Mp σ} {T T':Nat->Nat} {w w':World} {mb:Nat} {m m':Mc σ} {calls calls':Int} {hv:Value} {g:Nat} {s:Nat->Nat} {K fb:Nat} {f:Fr} {cv av tv sv kv:Value}
structure PuR (w:World)(x:QI)(w':World):Prop where
 bel:Below w.heap.size w w'
 x0:w'.cell? ⟨w.heap.size,0,none⟩=some (.int .i64 x.op)
 x1:w'.cell? ⟨w.heap.size,1,none⟩=some (.int .i64 x.a)
 r0:w'.cell? ⟨w.heap.size+1,0,none⟩=some (.int .i64 0)
 r1:w'.cell? ⟨w.heap.size+1,1,none⟩=some (.int .i64 0)
 rf:∀ o,w'.frozen? ⟨w.heap.size+1,o,none⟩=false
 sz:w.heap.size+2<=w'.heap.size
theorem PuR.later {w:World}{x:QI}{w' w'':World}(h:PuR w x w')(hb:Below w'.heap.size w' w''):PuR w x w'':=
 ⟨xaf h.bel hb,qzA hb h.x0,qzA hb h.x1,qzA hb h.r0,qzA hb h.r1,fun o=>(hb.frozen (p:=⟨w.heap.size+1,o,none⟩) (by have:=h.sz;simp only;omega)).trans (h.rf o),qzD h.sz hb.size⟩
theorem xrf (w:World)(x:QI):PuR w x ((w.alloc (.cells #[.int .i64 x.op,.int .i64 x.a,.int .i64 x.b,.int .i64 x.c,.string x.name] 69)).alloc (.cells #[.int .i64 0,.int .i64 0] 41)):=by
 refine⟨xbp _ _ _,qzA (xai _ _) (xab _ _ _ _ rfl 0),qzA (xai _ _) (xab _ _ _ _ rfl 1),xab _ _ _ _ (by simp) 0,xab _ _ _ _ (by simp) 1,fun o=>xaq (cur:=#[.int .i64 0,.int .i64 0]) (t:=41) ?_ o,by simp⟩
 have:=heap_alloc_new (w.alloc (.cells #[.int .i64 x.op,.int .i64 x.a,.int .i64 x.b,.int .i64 x.c,.string x.name] 69)) (.cells #[.int .i64 0,.int .i64 0] 41)
 simpa using this
theorem FrAt.c (h:FrAt T K w fb f cv av tv sv kv):w.cell? ⟨fb,6,none⟩=some (.int .i64 f.self.k)/\w.cell? ⟨fb,7,none⟩=some (.int .i64 f.self.n)/\w.cell? ⟨fb,8,none⟩=some av/\w.cell? ⟨fb,9,none⟩=some tv:=by
 refine⟨?_,?_,?_,?_⟩<;>(rw[qzB h.box];rfl)
theorem FrAt.tempsV (h:FrAt T K w fb f cv av tv sv kv):xaV (fun _=>True) w tv f.temps:=by
 obtain⟨tb,rfl,h1,-,h2⟩:=h.temps
 exact xlU h1 trivial (by omega)
theorem xmj (h:MacAt p T w mb m calls hv g s)(hF:FrAt T K w fb f cv av tv sv kv)(x:QI):Calls Tryz.prog 271 #[.pointer (some ⟨mb,0,none⟩),.pointer (some ⟨fb,0,none⟩),IV x] w fun e w'=>e=.returned (.tuple #[VV ((xan m.heap f x).getD xa4),.bool (xan m.heap f x).isSome])/\Below w.heap.size w w':=by
 have hlf:=xam hF.box;have hlm:=xam h.box;have hR:=xrf w x;have hM:=h.later hR.bel;have hFr:=hF.later hR.bel;clear h hF;go_enter Tryz.func271,Tryz.ntmps271
 go_upto_region 1 with (fail)
 generalize ((w.alloc (.cells #[.int .i64 x.op,.int .i64 x.a,.int .i64 x.b,.int .i64 x.c,.string x.name] 69)).alloc (.cells #[.int .i64 0,.int .i64 0] 41))=W at *;obtain⟨f6,f7,f8,f9⟩:=hFr.c;have m1:=hM.c1;have hA:=hFr.args;have hT:=hFr.tempsV;have hH:=hM.heap.heap;obtain⟨-,x0,x1,r0,r1,rf,sz⟩:=id hR;obtain⟨aa,ca,rfl,-⟩:=id hA;obtain⟨at',ct,rfl,-⟩:=id hT;obtain⟨ah,ch,rfl,-⟩:=id hH;have nf:¬ fb=w.heap.size+1:=by omega
 have nf':¬ w.heap.size+1=fb:=by omega
 have nm:¬ mb=w.heap.size+1:=by omega
 have nm':¬ w.heap.size+1=mb:=by omega
 have HR:=hid hR;clear hFr hM hR
 by_cases h1:x.op=1
 ·have HV:Hid (xan m.heap f x=some f.self):=by show _=_;unfold xan;rw[if_pos h1]
  have h1':(x.op == 1)=true:=by simpa using h1
  clear h1;go_wp2;refine bodyPost_ret (v:=.tuple #[VV f.self,.bool true]) ?_ rfl ⟨by rw[HV.out];rfl,((HR.out.bel.setCell (by simp) _).setCell (by simp) _)⟩
  simp[results,Tryz.results271,go_sem,r0,r1]
 have h1':(x.op == 1)=false:=by simpa using h1
 by_cases h2:x.op=2
 ·have HV:Hid (xan m.heap f x=some (xaK f.args x.a)):=by show _=_;unfold xan;rw[if_neg h1];rw[if_pos h2]
  have h2':(x.op == 2)=true:=by simpa using h2
  clear h1 h2;go_wp2;have hS0:(fun w'=>w'.cell? ⟨fb,8,none⟩=some (.slice aa f.args.length ca)/\w'.cell? ⟨w.heap.size,1,none⟩=some (.int .i64 x.a)) W.drew:=⟨f8,x1⟩
  have hcon:Calls Tryz.prog 255 _ W.drew _:=xde f.args _ x.a W.drew (hA.later xa7 (Below.refl _ _).drew);obtain⟨u,hu⟩:∃ u,u=(xaK f.args x.a):=⟨_,rfl⟩;rw[← hu] at hcon HV;clear hu
  go_region_held3 (fun w'=>w'.cell? ⟨fb,8,none⟩=some (.slice aa f.args.length ca)/\w'.cell? ⟨w.heap.size,1,none⟩=some (.int .i64 x.a))
   (first | with_reducible exact hS0 | with_reducible exact hS1 | exact⟨(World.cell?_setCell_far _ _ _ _ (by simp;try omega)).trans ((World.cell?_setCell_far _ _ _ _ (by simp;try omega)).trans hS1.1),(World.cell?_setCell_far _ _ _ _ (by simp;try omega)).trans ((World.cell?_setCell_far _ _ _ _ (by simp;try omega)).trans hS1.2)⟩)
   (first | (go_at_call 255;refine hcon.mono ?_;rintro e w1 ⟨rfl,hb1⟩;have hS1:=And.intro (qzA hb1 hS0.1) (qzA hb1 hS0.2);have hR1:=HR.out.later ((Below.refl _ _).drew.trans hb1);clear x0 x1 r0 r1 rf sz;obtain⟨-,x0,x1,r0,r1,rf,sz⟩:=id hR1))
  all_goals (
   go_wp2;refine bodyPost_ret (v:=.tuple #[VV u,.bool true]) ?_ rfl ⟨by rw[HV.out];rfl,((hR1.bel.setCell (by simp) _).setCell (by simp) _)⟩
   simp[results,Tryz.results271,go_sem,r0,r1])
 have h2':(x.op == 2)=false:=by simpa using h2
 by_cases h3:x.op=3
 ·have HV:Hid (xan m.heap f x=some (xaK f.temps x.a)):=by show _=_;unfold xan;rw[if_neg h1];rw[if_neg h2];rw[if_pos h3]
  have h3':(x.op == 3)=true:=by simpa using h3
  clear h1 h2 h3;go_wp2;have hS0:(fun w'=>w'.cell? ⟨fb,9,none⟩=some (.slice at' f.temps.length ct)/\w'.cell? ⟨w.heap.size,1,none⟩=some (.int .i64 x.a)) W.drew:=⟨f9,x1⟩
  have hcon:Calls Tryz.prog 255 _ W.drew _:=xde f.temps _ x.a W.drew (hT.later xa7 (Below.refl _ _).drew);obtain⟨u,hu⟩:∃ u,u=(xaK f.temps x.a):=⟨_,rfl⟩;rw[← hu] at hcon HV;clear hu
  go_region_held3 (fun w'=>w'.cell? ⟨fb,9,none⟩=some (.slice at' f.temps.length ct)/\w'.cell? ⟨w.heap.size,1,none⟩=some (.int .i64 x.a))
   (first | with_reducible exact hS0 | with_reducible exact hS1 | exact⟨(World.cell?_setCell_far _ _ _ _ (by simp;try omega)).trans ((World.cell?_setCell_far _ _ _ _ (by simp;try omega)).trans hS1.1),(World.cell?_setCell_far _ _ _ _ (by simp;try omega)).trans ((World.cell?_setCell_far _ _ _ _ (by simp;try omega)).trans hS1.2)⟩)
   (first | (go_at_call 255;refine hcon.mono ?_;rintro e w1 ⟨rfl,hb1⟩;have hS1:=And.intro (qzA hb1 hS0.1) (qzA hb1 hS0.2);have hR1:=HR.out.later ((Below.refl _ _).drew.trans hb1);clear x0 x1 r0 r1 rf sz;obtain⟨-,x0,x1,r0,r1,rf,sz⟩:=id hR1))
  all_goals (
   go_wp2;refine bodyPost_ret (v:=.tuple #[VV u,.bool true]) ?_ rfl ⟨by rw[HV.out];rfl,((hR1.bel.setCell (by simp) _).setCell (by simp) _)⟩
   simp[results,Tryz.results271,go_sem,r0,r1])
 have h3':(x.op == 3)=false:=by simpa using h3
 by_cases h4:x.op=4
 ·have HV:Hid (xan m.heap f x=some (xep m.heap f.self x.a)):=by show _=_;unfold xan;rw[if_neg h1];rw[if_neg h2];rw[if_neg h3];rw[if_pos h4]
  have h4':(x.op == 4)=true:=by simpa using h4
  clear h1 h2 h3 h4;go_wp2;have hS0:(fun w'=>w'.cell? ⟨mb,1,none⟩=some (.slice ah m.heap.length ch)/\w'.cell? ⟨fb,6,none⟩=some (.int .i64 f.self.k)/\w'.cell? ⟨fb,7,none⟩=some (.int .i64 f.self.n)/\w'.cell? ⟨w.heap.size,1,none⟩=some (.int .i64 x.a)) W.drew:=⟨m1,f6,f7,x1⟩
  have hcon:Calls Tryz.prog 280 _ W.drew _:=xj2 m.heap _ f.self x.a W.drew (hH.later xaB (Below.refl _ _).drew);obtain⟨u,hu⟩:∃ u,u=(xep m.heap f.self x.a):=⟨_,rfl⟩;rw[← hu] at hcon HV;clear hu
  go_region_held3 (fun w'=>w'.cell? ⟨mb,1,none⟩=some (.slice ah m.heap.length ch)/\w'.cell? ⟨fb,6,none⟩=some (.int .i64 f.self.k)/\w'.cell? ⟨fb,7,none⟩=some (.int .i64 f.self.n)/\w'.cell? ⟨w.heap.size,1,none⟩=some (.int .i64 x.a))
   (first | with_reducible exact hS0 | with_reducible exact hS1 | exact⟨(World.cell?_setCell_far _ _ _ _ (by simp;try omega)).trans ((World.cell?_setCell_far _ _ _ _ (by simp;try omega)).trans hS1.1),(World.cell?_setCell_far _ _ _ _ (by simp;try omega)).trans ((World.cell?_setCell_far _ _ _ _ (by simp;try omega)).trans hS1.2.1),(World.cell?_setCell_far _ _ _ _ (by simp;try omega)).trans ((World.cell?_setCell_far _ _ _ _ (by simp;try omega)).trans hS1.2.2.1),(World.cell?_setCell_far _ _ _ _ (by simp;try omega)).trans ((World.cell?_setCell_far _ _ _ _ (by simp;try omega)).trans hS1.2.2.2)⟩)
   (first | (go_at_call 280;refine hcon.mono ?_;rintro e w1 ⟨rfl,hb1⟩;have hS1:=And.intro (qzA hb1 hS0.1) (And.intro (qzA hb1 hS0.2.1) (And.intro (qzA hb1 hS0.2.2.1) (qzA hb1 hS0.2.2.2)));have hR1:=HR.out.later ((Below.refl _ _).drew.trans hb1);clear x0 x1 r0 r1 rf sz;obtain⟨-,x0,x1,r0,r1,rf,sz⟩:=id hR1))
  all_goals (
   go_wp2;refine bodyPost_ret (v:=.tuple #[VV u,.bool true]) ?_ rfl ⟨by rw[HV.out];rfl,((hR1.bel.setCell (by simp) _).setCell (by simp) _)⟩
   simp[results,Tryz.results271,go_sem,r0,r1])
 have h4':(x.op == 4)=false:=by simpa using h4
 by_cases h5:x.op=5
 ·have HV:Hid (xan m.heap f x=some ⟨3,x.a⟩):=by show _=_;unfold xan;rw[if_neg h1];rw[if_neg h2];rw[if_neg h3];rw[if_neg h4];rw[if_pos h5]
  have h5':(x.op == 5)=true:=by simpa using h5
  clear h1 h2 h3 h4 h5;go_wp2;refine bodyPost_ret (v:=.tuple #[VV ⟨3,x.a⟩,.bool true]) ?_ rfl ⟨by rw[HV.out];rfl,((HR.out.bel.setCell (by simp) _).setCell (by simp) _)⟩
  simp[results,Tryz.results271,go_sem,r0,r1]
 have h5':(x.op == 5)=false:=by simpa using h5
 by_cases h6:x.op=6
 ·have HV:Hid (xan m.heap f x=some xa4):=by show _=_;unfold xan;rw[if_neg h1];rw[if_neg h2];rw[if_neg h3];rw[if_neg h4];rw[if_neg h5];rw[if_pos h6]
  have h6':(x.op == 6)=true:=by simpa using h6
  clear h1 h2 h3 h4 h5 h6;go_wp2;refine bodyPost_ret (v:=.tuple #[VV xa4,.bool true]) ?_ rfl ⟨by rw[HV.out];rfl,((HR.out.bel.setCell (by simp) _).setCell (by simp) _)⟩
  simp[results,Tryz.results271,go_sem,r0,r1]
 have h6':(x.op == 6)=false:=by simpa using h6
 by_cases h7:x.op=7
 ·have HV:Hid (xan m.heap f x=some ⟨1,0⟩):=by show _=_;unfold xan;rw[if_neg h1];rw[if_neg h2];rw[if_neg h3];rw[if_neg h4];rw[if_neg h5];rw[if_neg h6];rw[if_pos h7]
  have h7':(x.op == 7)=true:=by simpa using h7
  clear h1 h2 h3 h4 h5 h6 h7;go_wp2_with fail;refine (xdg false _).mono ?_;rintro e w1 ⟨rfl,hb1⟩;have hR1:=HR.out.later hb1;clear x0 x1 r0 r1 rf sz;obtain⟨-,x0,x1,r0,r1,rf,sz⟩:=id hR1;go_wp2;refine bodyPost_ret (v:=.tuple #[VV ⟨1,0⟩,.bool true]) ?_ rfl ⟨by rw[HV.out];rfl,((hR1.bel.setCell (by simp) _).setCell (by simp) _)⟩
  simp[results,Tryz.results271,go_sem,r0,r1]
 have h7':(x.op == 7)=false:=by simpa using h7
 by_cases h8:x.op=8
 ·have HV:Hid (xan m.heap f x=some ⟨2,0⟩):=by show _=_;unfold xan;rw[if_neg h1];rw[if_neg h2];rw[if_neg h3];rw[if_neg h4];rw[if_neg h5];rw[if_neg h6];rw[if_neg h7];rw[if_pos h8]
  have h8':(x.op == 8)=true:=by simpa using h8
  clear h1 h2 h3 h4 h5 h6 h7 h8;go_wp2_with fail;refine (xdg true _).mono ?_;rintro e w1 ⟨rfl,hb1⟩;have hR1:=HR.out.later hb1;clear x0 x1 r0 r1 rf sz;obtain⟨-,x0,x1,r0,r1,rf,sz⟩:=id hR1;go_wp2;refine bodyPost_ret (v:=.tuple #[VV ⟨2,0⟩,.bool true]) ?_ rfl ⟨by rw[HV.out];rfl,((hR1.bel.setCell (by simp) _).setCell (by simp) _)⟩
  simp[results,Tryz.results271,go_sem,r0,r1]
 have h8':(x.op == 8)=false:=by simpa using h8
 have HV:Hid (xan m.heap f x=none):=by show _=_;unfold xan;rw[if_neg h1];rw[if_neg h2];rw[if_neg h3];rw[if_neg h4];rw[if_neg h5];rw[if_neg h6];rw[if_neg h7];rw[if_neg h8]
 clear h1 h2 h3 h4 h5 h6 h7 h8;go_wp2;refine bodyPost_ret (v:=.tuple #[VV xa4,.bool false]) ?_ rfl ⟨by rw[HV.out];rfl,((HR.out.bel.setCell (by simp) _).setCell (by simp) _)⟩
 simp[results,Tryz.results271,go_sem,r0,r1]
end
section
variable {σ:Type} {p:Mp σ} {T T':Nat->Nat} {w w':World} {mb:Nat} {m m':Mc σ} {calls calls':Int} {hv:Value} {g:Nat} {s:Nat->Nat} {K fb:Nat} {f:Fr} {cv av tv sv kv:Value}
theorem xqI (v:QV)(w:World):(Instr.field 41 (VV v) 0).run Tryz.prog w=.ok (.int .i64 v.k) w:=by
 obtain⟨i0,hi,hz0,hz1,hz2⟩:=xbu xsm
 simp[Instr.field,run_underlying Tryz.underlying41,part,sizeOf,typeInfo,hi,hz1,asAgg]
theorem xmf (h:MacAt p T w mb m calls hv g s)(hF:FrAt T K w fb f cv av tv sv kv)(a b:Int)(ht:0<=m.tz/\m.tz<=300):Calls Tryz.prog 278 #[.pointer (some ⟨mb,0,none⟩),.pointer (some ⟨fb,0,none⟩),.int .i64 a,.int .i64 b] w fun e w'=>e=.returned (.int .i64 (xbQ m f a b).2.2)/\MacAt p T w' mb (xbQ m f a b).1 calls hv g s/\((xbQ m f a b).2.2=0->∃ sv',FrAt T K w' fb (xbQ m f a b).2.1 cv av tv sv' kv)/\Kp (fun t=>t=1\/t=K) T w w':=by
 have hp:=hF.pos;have hfl:=xqI;go_enter Tryz.func278,Tryz.ntmps278;go_wp2_with fail;refine (xeM hF).mono ?_;rintro e w1 ⟨rfl,⟨sv1,hF1⟩,hK1⟩;have hM1:=h.keep (.refl _ _) hK1 (by omega) (by omega) (by omega)
 have HK:=hid hK1;clear h hF hK1
 by_cases h2:f.top.k=2
 ·have HE:Hid (xbQ m f a b=(m,f.pop,0)):=by show _=_;unfold xbQ;rw[if_pos h2]
  have h2':(f.top.k == 2)=true:=by simpa using h2
  have HM:=hid hM1;have HF:=hid hF1;clear hM1 hF1;go_wp2
  go_ret
  rw[HE.out]
  exact⟨rfl,HM.out,fun _=>⟨_,HF.out⟩,HK.out.mono fun t h=>Or.inr h⟩
 have h2':(f.top.k == 2)=false:=by simpa using h2
 by_cases h1:f.top.k=1
 ·have HE:Hid (xbQ m f a b=xa3 m f.pop a b):=by show _=_;unfold xbQ;rw[if_neg h2,if_pos h1]
  have h1':(f.top.k == 1)=true:=by simpa using h1
  go_wp2_with fail;refine (xlX hM1 hF1 a b ht).mono ?_;rintro e w2 ⟨rfl,hM2,hF2,hK2⟩;have HM:=hid hM2;have HF:=hid hF2;have HK2:=hid hK2;clear hM1 hF1 hM2 hF2 hK2;go_wp2
  go_ret
  rw[HE.out]
  exact⟨rfl,HM.out,fun _=>⟨_,HF.out⟩,(HK.out.mono fun t h=>Or.inr h).trans (.refl _ _) HK2.out⟩
 have h1':(f.top.k == 1)=false:=by simpa using h1
 have HE:Hid (xbQ m f a b=(m,f,11)):=by show _=_;unfold xbQ;rw[if_neg h2,if_neg h1]
 have HM:=hid hM1;clear hM1 hF1;go_wp2
 go_ret
 rw[HE.out]
 exact⟨rfl,HM.out,fun h=>absurd h (by simp),HK.out.mono fun t h=>Or.inr h⟩
theorem xgp {ops:Array Oper}{o:Oper}{a:Act}{w:World}{K:Act->World->Prop}{Q:Exit->Act->World->Prop}{E:Prop}(hgd:o.guard=none)(s x:Operand)
  (hop:o.op=Op.call { callee:=Callee.builtin Builtin.append,args:=#[s,x],argTypes:=#[24,24] }) (g n:Nat) (hs:a.eval s=.slice (some ⟨g,0,none⟩) n n) (Bb:Nat) (hx:a.eval x=.slice (some ⟨Bb,0,none⟩) 1 1)
  (cur:Array Value) (hcur:w.heap[g]?=some (.cells cur 84 (0,0))) (hlen:cur.size=n*2) (x0 x1:Value) (h0:w.cell? ⟨Bb,0,none⟩=some x0) (h1:w.cell? ⟨Bb,1,none⟩=some x1) (o0:x0.oneCell'=true) (o1:x1.oneCell'=true) (hn:n<1000)
  (hK:∀ g' cap cur' w',n+1<=cap->cap<=maxLen->w'.heap[g']?=some (.cells cur' 84 (0,0))->cur'.toList.take ((n+1)*2)=cur.toList++[x0,x1]->w.heap.size<=g'->Below w.heap.size w w'->K (a.put o.dst (.slice (some ⟨g',0,none⟩) (n+1) cap)) w') :
  if Region.wanted o (yielded ops a.tmps)=true then Oper.wp Tryz.prog o a w K Q else E:=by
 obtain⟨i0,hi,hz0,hz1,hz2⟩:=xbu xql
 refine step_append_grows hgd s x 24 hop 84 i0 _ 2 32 Tryz.underlying24 hi hz0 hz1 hz2 rfl (by decide) (some ⟨g,0,none⟩) n n cur.toList hs (fun h=>by cases h) (by simpa using hlen)
  (fun b hb j u hu=>by cases hb;rw[Addr.add_lit,Nat.zero_add,qzB hcur];simpa using hu) ⟨Bb,0,none⟩ 1 1 [x0,x1] hx rfl
  (fun j u hu=>by
   rw[Addr.add_lit,Nat.zero_add]
   match j,hu with
   | 0,hu=>simp at hu;rw[← hu];exact h0
   | 1,hu=>simp at hu;rw[← hu];exact h1)
  (fun u hu=>by simp at hu;rcases hu with h | h<;>rw[h]<;>assumption) (by omega) (by unfold maxLen;omega) (by omega) ?_
 intro v' w' hown hgr;obtain⟨-,h | ⟨g',cap,cur',rfl,hb,hh,hc1,hc2,-,hc4⟩⟩:=hown
 ·omega
 ·exact hK g' cap cur' w' hc1 hc2 hh hc4 hb ((Below.refl _ _).grown hgr (qzC _) (fun k hk=>by cases hk))
structure NwS (w:World)(k:Nat)(w':World):Prop where
 bel:Below w.heap.size w w'
 c0:∃ u,w'.cell? ⟨w.heap.size,0,none⟩=some u
 c1:∃ u,w'.cell? ⟨w.heap.size,1,none⟩=some u
 fr:∀ o,w'.frozen? ⟨w.heap.size,o,none⟩=false
 vals:w'.heap[w.heap.size+1]?=some (.cells (xaA (List.replicate k xa4)).toArray 41 (0,0))
theorem NwS.later {w w' w1:World}{k:Nat}(h:NwS w k w')(hb:Below w'.heap.size w' w1):NwS w k w1:=
 have h0:=h.c0;have h1:=h.c1
 ⟨xaf h.bel hb,h0.elim fun u hu=>⟨u,qzA hb hu⟩,h1.elim fun u hu=>⟨u,qzA hb hu⟩,fun o=>(hb.frozen (p:=⟨w.heap.size,o,none⟩) (h0.elim fun u hu=>World.block_lt_of_cell? w' ⟨w.heap.size,0,none⟩ hu)).trans (h.fr o),xaa h.vals hb⟩
theorem xeW {w:World}{a b:Addr}{x:Value}(h:∃ u,w.cell? a=some u):∃ u,(w.setCell b x).cell? a=some u:=by
 obtain⟨u,h⟩:=h;obtain⟨v,hv⟩:=cell?_setCell_some (w:=w) (p:=b) (x:=x) (q:=a) (v:=u) h
 exact⟨v,hv⟩
theorem NwS.set {w w':World}{k:Nat}(h:NwS w k w')(o:Nat)(u:Value):NwS w k (w'.setCell ⟨w.heap.size,o,none⟩ u):=
 ⟨h.bel.setCell (qzC _) _,xeW h.c0,xeW h.c1,fun o'=>by rw[World.frozen?_setCell];exact h.fr o',by rw[xac (by omega)];exact h.vals⟩
theorem xr9 {w w':World}{k b:Nat}{x y:Value}(hb:w.heap.size<b)(h:w'.cell? ⟨b,0,none⟩=some x/\w'.cell? ⟨b,1,none⟩=some y/\NwS w k w')(o o':Nat)(u u':Value) :
  ((w'.setCell ⟨w.heap.size,o,none⟩ u).setCell ⟨w.heap.size,o',none⟩ u').cell? ⟨b,0,none⟩=some x/\((w'.setCell ⟨w.heap.size,o,none⟩ u).setCell ⟨w.heap.size,o',none⟩ u').cell? ⟨b,1,none⟩=some y/\NwS w k ((w'.setCell ⟨w.heap.size,o,none⟩ u).setCell ⟨w.heap.size,o',none⟩ u'):=
 ⟨(World.cell?_setCell_far _ _ _ _ (by simp;omega)).trans ((World.cell?_setCell_far _ _ _ _ (by simp;omega)).trans h.1),(World.cell?_setCell_far _ _ _ _ (by simp;omega)).trans ((World.cell?_setCell_far _ _ _ _ (by simp;omega)).trans h.2.1),(h.2.2.set _ _).set _ _⟩
theorem xrs {w w' w1:World}{k:Nat}{a b:Addr}{x y:Value}(h:w'.cell? a=some x/\w'.cell? b=some y/\NwS w k w')(hb:Below w'.heap.size w' w1):w1.cell? a=some x/\w1.cell? b=some y/\NwS w k w1:=⟨qzA hb h.1,qzA hb h.2.1,h.2.2.later hb⟩
theorem xq4 {w1 wx w2:World}{hs:List QO}{cur cur':Array Value}{c:Int}{k g g' cap vb lo:Nat}{s:Nat->Nat}(hR:HRow w1 g s hs hs.length)(hcur:w1.heap[g]?=some (.cells cur 84 (0,0)))(hlen:cur.size=hs.length*2)(hx:Below w1.heap.size w1 wx)(hb2:Below wx.heap.size wx w2)(hv:w2.heap[vb]?=some (.cells (xaA (List.replicate k xa4)).toArray 41 (0,0)))
  (h1:hs.length+1<=cap) (h2:cap<=maxLen) (hh:w2.heap[g']?=some (.cells cur' 84 (0,0))) (hcl:cur'.toList.take ((hs.length+1)*2)=cur.toList++[.int .i64 c,.slice (some ⟨vb,0,none⟩) k k]) (hg':wx.heap.size<=g') (hvg:vb<g) (hl:hs.length<1000) (hk:k<=2147483647) (hlo:lo<=vb) {T:Nat->Nat} (hT:∀ b,lo<=b->T b=2) :
  HeapSt T w2 (.slice (some ⟨g',0,none⟩) (hs.length+1) cap) g' (fun i=>if i=hs.length then vb else s i) (hs++[⟨c,List.replicate k xa4⟩]):=by
 have hb:=xaf hx hb2;have hgl:=xam hcur;have hxs:=hx.size
 have hcell:∀ j,j<(hs.length+1)*2->w2.cell? ⟨g',j,none⟩=(cur.toList++[.int .i64 c,.slice (some ⟨vb,0,none⟩) k k])[j]?:=fun j hj=>by
  rw[qzB hh,← hcl,List.getElem?_take,if_pos hj];simp
 have hcl':cur.toList.length=hs.length*2:=by simpa using hlen
 have hin:∀ i x,hs[i]?=some x->s i<w1.heap.size:=fun i x hx=>hR.lt i (xad hx)
 refine⟨⟨cap,by simp,by simpa using h1,h2⟩,by simp;omega,xam hh,hT _ (by omega),fun i x hi=>?_,fun i j hi hj e=>?_⟩
 ·by_cases hil:i<hs.length
  ·rw[List.getElem?_append_left hil] at hi;obtain⟨e1,e2,e3,e4,e5⟩:=hR.obj i x hil hi;simp only[show i≠hs.length by omega,if_false]
   have d:∀ j,j<hs.length*2->w2.cell? ⟨g',j,none⟩=w1.cell? ⟨g,j,none⟩:=fun j hj=>by
    rw[hcell j (by omega),List.getElem?_append_left (by omega),qzB hcur];simp
   have:=hin i x hi
   exact⟨by rw[d _ (by omega)];exact e1,by rw[d _ (by omega)];exact e2,xaa e3 hb,hT _ (by omega),by omega,e5⟩
  ·have hi':i=hs.length:=by
    have:=xad hi
    simp at this;omega
   subst hi'
   simp at hi
   subst hi;simp only[if_true];refine⟨?_,?_,hv,hT _ hlo,by omega,by simp;omega⟩
   ·rw[hcell _ (by omega),List.getElem?_append_right (by omega),hcl'];simp
   ·rw[hcell _ (by omega),List.getElem?_append_right (by omega),hcl',show hs.length*2+1-hs.length*2=1 by omega];simp
 ·simp at hi hj
  have big:∀ i,i<hs.length->vb<s i:=fun i hi=>by
   have hx:hs[i]?=some hs[i]:=by simp[hi]
   have:=(hR.obj i _ hi hx).2.2.2.1
   omega
  by_cases a1:i=hs.length
  ·by_cases a2:j=hs.length
   ·omega
   ·rw[if_pos a1,if_neg a2] at e;have:=big j (by omega);omega
  ·by_cases a2:j=hs.length
   ·rw[if_neg a1,if_pos a2] at e;have:=big i (by omega);omega
   ·rw[if_neg a1,if_neg a2] at e
    rcases Nat.lt_trichotomy i j with h | h | h
    ·have:=hR.inc i j h (by omega);omega
    ·exact h
    ·have:=hR.inc j i h (by omega);omega
def xop (w:World)(hs:List QO)(c:Int)(k:Nat)(e:Ending)(w':World):Prop:=Below w.heap.size w w'/\
  ((60<=hs.length\/2147483647<k)->e=.returned (.tuple #[.slice none 0 0,VV xa4,.int .i64 15]))/\
  (¬ (60<=hs.length\/2147483647<k)->∃ g s cap,e=.returned (.tuple #[.slice (some ⟨g,0,none⟩) (hs.length+1) cap,VV ⟨4,hs.length⟩,.int .i64 0])/\∀ T:Nat->Nat,T w.heap.size=4->(∀ b,w.heap.size+1<=b->T b=2)->HeapSt T w' (.slice (some ⟨g,0,none⟩) (hs.length+1) cap) g s (hs++[⟨c,List.replicate k xa4⟩]))
theorem xl0 {P:Nat->Prop}(hs:List QO)(hv:Value)(c:Int)(k:Nat)(w:World)(h:xav P w hv hs):Calls Tryz.prog 82 #[hv,.int .i64 c,.int .i64 k] w fun e w'=>xop w hs c k e w':=by
 obtain⟨a,cap,rfl,-⟩:=id h
 by_cases h6:60<=hs.length
 ·have h6':(60:Int)<=(hs.length:Int):=by omega
  have HN:Hid (60<=hs.length\/2147483647<k):=Or.inl h6;go_enter Tryz.func82,Tryz.ntmps82;go_wp2;refine bodyPost_ret (v:=.tuple #[.slice none 0 0,VV xa4,.int .i64 15]) ?_ rfl ⟨xai _ _,fun _=>rfl,fun hn=>absurd HN.out hn⟩
  simp[results,Tryz.results82,go_sem]
 have h6':¬ ((60:Int)<=(hs.length:Int)):=by omega
 by_cases h7:2147483647<k
 ·have h7':(2147483647:Int)<(k:Int):=by omega
  have HN:Hid (60<=hs.length\/2147483647<k):=Or.inr h7;go_enter Tryz.func82,Tryz.ntmps82;go_wp2;refine bodyPost_ret (v:=.tuple #[.slice none 0 0,VV xa4,.int .i64 15]) ?_ rfl ⟨xai _ _,fun _=>rfl,fun hn=>absurd HN.out hn⟩
  simp[results,Tryz.results82,go_sem]
 have h7':¬ ((2147483647:Int)<(k:Int)):=by omega
 have hmk:=xd2 k (by omega)
 have HN:Hid (¬ (60<=hs.length\/2147483647<k)):=by show ¬ _;omega
 have hk0:¬ ((k:Int)<0):=by omega
 have hb3:Below w.heap.size w (((w.alloc (.cells #[.int .i64 0,.int .i64 0] 41)).alloc (.cells (madeCells #[.int .i64 0,.int .i64 0] (k*2)) 41)).alloc (.cells #[.int .i64 c,.slice (some ⟨w.heap.size+1,0,none⟩) k k] 84)).drew:=(xeQ _ _ _ _).drew;have hH:=h.later xaB hb3;have hsz:(((w.alloc (.cells #[.int .i64 0,.int .i64 0] 41)).alloc (.cells (madeCells #[.int .i64 0,.int .i64 0] (k*2)) 41)).alloc (.cells #[.int .i64 c,.slice (some ⟨w.heap.size+1,0,none⟩) k k] 84)).drew.heap.size=w.heap.size+3:=by simp
 have hS0:(((w.alloc (.cells #[.int .i64 0,.int .i64 0] 41)).alloc (.cells (madeCells #[.int .i64 0,.int .i64 0] (k*2)) 41)).alloc (.cells #[.int .i64 c,.slice (some ⟨w.heap.size+1,0,none⟩) k k] 84)).drew.cell? ⟨w.heap.size+1+1,0,none⟩=some (.int .i64 c)/\(((w.alloc (.cells #[.int .i64 0,.int .i64 0] 41)).alloc (.cells (madeCells #[.int .i64 0,.int .i64 0] (k*2)) 41)).alloc (.cells #[.int .i64 c,.slice (some ⟨w.heap.size+1,0,none⟩) k k] 84)).drew.cell? ⟨w.heap.size+1+1,1,none⟩=some (.slice (some ⟨w.heap.size+1,0,none⟩) k k)/\NwS w k (((w.alloc (.cells #[.int .i64 0,.int .i64 0] 41)).alloc (.cells (madeCells #[.int .i64 0,.int .i64 0] (k*2)) 41)).alloc (.cells #[.int .i64 c,.slice (some ⟨w.heap.size+1,0,none⟩) k k] 84)).drew:=by
  refine⟨xab _ _ _ _ (by simp) 0,xab _ _ _ _ (by simp) 1,hb3,⟨_,qzA (xbp _ _ _).drew (xab w #[.int .i64 0,.int .i64 0] 41 _ rfl 0)⟩,⟨_,qzA (xbp _ _ _).drew (xab w #[.int .i64 0,.int .i64 0] 41 _ rfl 1)⟩,fun o=>((xbp _ _ _).drew.frozen (p:=⟨w.heap.size,o,none⟩) (by simp)).trans (xaq (heap_alloc_new w (.cells #[.int .i64 0,.int .i64 0] 41)) o),?_⟩
  rw[← xpB];refine xaa (w:=(w.alloc (.cells #[.int .i64 0,.int .i64 0] 41)).alloc (.cells (madeCells #[.int .i64 0,.int .i64 0] (k*2)) 41)) ?_ (xai _ _).drew;have:=heap_alloc_new (w.alloc (.cells #[.int .i64 0,.int .i64 0] 41)) (.cells (madeCells #[.int .i64 0,.int .i64 0] (k*2)) 41)
  simpa using this
 clear h;go_enter Tryz.func82,Tryz.ntmps82;go_wp2;generalize (((w.alloc (.cells #[.int .i64 0,.int .i64 0] 41)).alloc (.cells (madeCells #[.int .i64 0,.int .i64 0] (k*2)) 41)).alloc (.cells #[.int .i64 c,.slice (some ⟨w.heap.size+1,0,none⟩) k k] 84))=W0 at *;clear hmk;have hszW:W0.heap.size=w.heap.size+3:=hsz
 go_region_held3 (fun w'=>w'.cell? ⟨w.heap.size+1+1,0,none⟩=some (.int .i64 c)/\w'.cell? ⟨w.heap.size+1+1,1,none⟩=some (Value.slice (some { block:=w.heap.size+1,off:=0 }) k k)/\NwS w k w')
  (first | with_reducible exact hS0 | with_reducible exact hY | exact xr9 (by omega) hY _ _ _ _ | exact xrs (‹_/\_/\NwS w k _›) (xai _ _))
  (first
   | (refine xgp rfl (.tmp 24) (.tmp 26) rfl g hs.length rfl _ rfl cur (by first | exact hcur | exact ((xai _ _).block _ (xam hcur)).trans hcur) hlen (.int .i64 c) (Value.slice (some { block:=w.heap.size+1,off:=0 }) k k) (by first | (rw[xab _ _ _ _ rfl];rfl) | exact qzA hb1 (xab W0 _ 84 _ hszW 0)) (by first | (rw[xab _ _ _ _ rfl];rfl) | exact qzA hb1 (xab W0 _ 84 _ hszW 1)) rfl rfl hl0 ?_;intro g' cap' cur' w2 n1 n2 hh2 hcl hg2 hb2;have hY:=xrs (‹_/\_/\NwS w k _›) hb2;have hfin:Hid (∀ T:Nat->Nat,(∀ b,w.heap.size+1<=b->T b=2)->HeapSt T w2 (.slice (some ⟨g',0,none⟩) (hs.length+1) cap') g' _ (hs++[⟨c,List.replicate k xa4⟩])):=(fun T hT=>xq4 xew hcur hlen (by first | exact Below.refl _ _ | exact xai _ _) hb2 hY.2.2.vals n1 n2 hh2 hcl hg2 (by omega) hl0 (by omega) (qzC _) hT);obtain⟨-,⟨v0,u0⟩,⟨v1,u1⟩,hfr,-⟩:=id hY.2.2)
   | (go_at_call 49;refine (xlx hs _ _ (hH.later xaB (by first | exact Below.refl _ _ | exact xai _ _))).mono ?_;rintro e w1 ⟨g,sg,rfl,xew,hg1,hb1⟩;obtain⟨cur,hcur,hlen⟩:=xew.row;have hl0:hs.length<1000:=(by omega);have hg3:w.heap.size+3<=g:=(by simp at hg1;omega);have hY:=xrs (‹_/\_/\NwS w k _›) hb1))
 all_goals go_wp2
 all_goals (
  refine bodyPost_ret (v:=.tuple #[.slice (some ⟨g',0,none⟩) (hs.length+1) cap',VV ⟨4,hs.length⟩,.int .i64 0]) ?_ rfl ⟨((hY.2.2.set _ _).set _ _).bel,fun h=>absurd h HN.out,fun _=>⟨g',(fun i=>if i=hs.length then w.heap.size+1 else sg i),cap',rfl,fun T hT1 hT2=>?_⟩⟩
  ·simp[results,Tryz.results82,go_sem,u0,u1]
  ·exact (hfin.out T hT2).keep (.refl _ _) (((Kp.refl (fun t=>t=4) _ _).set (fun _=>hT1) _ _).set (fun _=>hT1) _ _) (by omega))
structure MkS (w:World)(mb:Nat)(v0 v1:Value)(ep:Int)(w':World):Prop where
 bel:Below w.heap.size w w'
 m0:w'.cell? ⟨mb,0,none⟩=some v0
 m1:w'.cell? ⟨mb,1,none⟩=some v1
 m2:w'.cell? ⟨mb,2,none⟩=some (.int .i64 ep)
 lt:mb<w.heap.size
theorem MkS.later {w:World}{mb:Nat}{v0 v1:Value}{ep:Int}{w' w'':World}(h:MkS w mb v0 v1 ep w')(hb:Below w'.heap.size w' w''):MkS w mb v0 v1 ep w'':=⟨xaf h.bel hb,qzA hb h.m0,qzA hb h.m1,qzA hb h.m2,h.lt⟩
theorem MkS.set {w:World}{mb:Nat}{v0 v1:Value}{ep:Int}{w':World}(h:MkS w mb v0 v1 ep w'){b:Nat}(hb:w.heap.size<=b)(o:Nat)(u:Value):MkS w mb v0 v1 ep (w'.setCell ⟨b,o,none⟩ u):=
 have hl:=h.lt
 ⟨h.bel.setCell hb _,(World.cell?_setCell_far _ _ _ _ (by simp;omega)).trans h.m0,(World.cell?_setCell_far _ _ _ _ (by simp;omega)).trans h.m1,(World.cell?_setCell_far _ _ _ _ (by simp;omega)).trans h.m2,hl⟩
theorem MkS.al {w:World}{mb:Nat}{v0 v1:Value}{ep:Int}{w':World}(h:MkS w mb v0 v1 ep w'):w'.cell? ⟨mb,0,none⟩=some v0/\w'.cell? ⟨mb,1,none⟩=some v1/\w'.cell? ⟨mb,2,none⟩=some (.int .i64 ep)/\MkS w mb v0 v1 ep w':=⟨h.m0,h.m1,h.m2,h⟩
theorem xqu (w:World)(x:Obj):w.heap.size<(w.alloc x).drew.heap.size:=by simp
theorem xsD (T:Nat->Nat)(w:World){W' w2:World}{hv:Value}{g:Nat}{s:Nat->Nat}{xs:List QO}(h:∀ T:Nat->Nat,T W'.heap.size=4->(∀ b,W'.heap.size+1<=b->T b=2)->HeapSt T w2 hv g s xs):Hid (∃ T2,(w.heap.size<=W'.heap.size->Ext T T2 w)/\HeapSt T2 w2 hv g s xs/\∀ b,w.heap.size<=b->b<=W'.heap.size->T2 b=4):=by
 refine⟨fun b=>if b<w.heap.size/\b<W'.heap.size then T b else if b<=W'.heap.size then 4 else 2,fun hs b hb=>?_,h _ ?_ fun b hb=>?_,fun b h1 h2=>?_⟩
 ·simp only[if_pos (And.intro hb (qzE hb hs))]
 ·simp
 ·simp only[if_neg (show ¬ (b<w.heap.size/\b<W'.heap.size) by omega),if_neg (show ¬ b<=W'.heap.size by omega)]
 ·simp only[if_neg (show ¬ (b<w.heap.size/\b<W'.heap.size) by omega),if_pos h2]
theorem xmr {hv2:Value}{g2:Nat}{s2:Nat->Nat}{xs2:List QO}{w2 U:World}{T2:Nat->Nat}{v:QV}(hM:MacAt p T w mb m calls hv g s)(hF:FrAt T K w fb f cv av tv sv kv)(hE:Ext T T2 w)(hH:HeapSt T2 w2 hv2 g2 s2 xs2)(ha:U.heap[mb]?=some (MB p { m with heap:=xs2 } calls hv2))(kU:Kp (fun t=>t=1\/t=4) T2 w2 U)(kw:Kp (fun t=>t=1) T w U)(hroom:f.stack.length<1000000000) :
  Calls Tryz.prog 272 #[.pointer (some ⟨fb,0,none⟩),VV v] U fun e w'=>e=.returned (.tuple #[])/\(∃ T',Ext T T' w/\(∃ hv' g' s',MacAt p T' w' mb { m with heap:=xs2 } calls hv' g' s')/\(((0:Int)=0)->∃ sv',FrAt T' K w' fb (f.push v) cv av tv sv' kv))/\Kp (fun t=>t=1\/t=K\/t=K+2) T w w':=by
 have hp:=hF.pos;have hMU:MacAt p T2 U mb { m with heap:=xs2 } calls hv2 g2 s2:=⟨ha,by rw[hE _ (xam hM.box)];exact hM.tag,hH.keep (.refl _ _) kU (by omega),hM.cls.fx xax hE kw (by omega)⟩
 have hFU:=hF.keep hE kw (by omega) (by omega) (by omega) (by omega)
 refine (xe8 hFU v hroom).mono ?_;rintro e w4 ⟨rfl,⟨T4,sv4,e4,hF4⟩,k4⟩;have ew:Ext T T4 w:=hE.trans kw.size e4;refine⟨rfl,⟨T4,ew,⟨_,_,_,hMU.keep e4 k4 (by omega) (by omega) (by omega)⟩,fun _=>⟨_,hF4⟩⟩,?_⟩
 exact (kw.mono fun t h=>Or.inl h).trans hE (k4.mono fun t h=>Or.inr h)
def xps (p:Mp σ)(T:Nat->Nat)(w:World)(mb:Nat)(m:Mc σ)(calls:Int)(K fb:Nat)(f:Fr)(cv av tv kv:Value)(r:Mc σ × Fr × Int)(e:Ending)(w':World):Prop:=
 e=.returned (.int .i64 r.2.2)/\(∃ T',Ext T T' w/\(∃ hv' g' s',MacAt p T' w' mb r.1 calls hv' g' s')/\(r.2.2=0->∃ sv',FrAt T' K w' fb r.2.1 cv av tv sv' kv))/\Kp (fun t=>t=1\/t=K\/t=K+2) T w w'
theorem xhA (h:MacAt p T w mb m calls hv g s)(hF:FrAt T K w fb f cv av tv sv kv)(c:Int)(hsl:xaS p.E.cz c=xbw p.E.cz c/\0<=xbw p.E.cz c)(hroom:f.stack.length<1000000000):Calls Tryz.prog 275 #[.pointer (some ⟨mb,0,none⟩),.pointer (some ⟨fb,0,none⟩),.int .i64 c] w fun e w'=>xps p T w mb m calls K fb f cv av tv kv (xci p.E m f c) e w':=by
 have hp:=hF.pos;have hlm:=xam h.box;have hlf:=xam hF.box;obtain⟨k,hk⟩:∃ k:Nat,xbw p.E.cz c=(k:Int):=⟨(xbw p.E.cz c).toNat,by omega⟩
 have HE:Hid (xci p.E m f c=if 60<=m.heap.length\/2147483647<k then (m,f,15) else ({ m with heap:=m.heap++[⟨c,List.replicate k xa4⟩] },f.push ⟨4,m.heap.length⟩,0)):=by
  show _=_
  unfold xci;rw[hk];simp only[Int.toNat_natCast]
  by_cases hc:60<=m.heap.length\/(2147483647:Int)<(k:Int)
  ·rw[if_pos hc,if_pos (by omega)]
  ·rw[if_neg hc,if_neg (by omega)]
 have hW:xaS p.E.cz c=(k:Int):=by rw[hsl.1,hk]
 clear hk hsl;have hd:Below w.heap.size w w.drew:=(Below.refl _ _).drew;have hM:=h;have hFr:=hF;have hH:=hM.heap.heap.mono (Q:=fun _=>True) xaB fun _ _=>trivial
 have hC:=hM.cls.mono (Q:=fun _=>True) xax fun _ _=>trivial
 have hS0:MkS w mb p.cv hv p.ep w.drew:=⟨hd,hM.c0,hM.c1,hM.c2,hlm⟩;have HM:=hid hM;have HF:=hid hFr;obtain⟨ac,cc,hcv,-⟩:=id hC;obtain⟨ah,ch,rfl,-⟩:=id hH
 have hslots:∀ w':World,Below w.heap.size w w'->Calls Tryz.prog 83 #[WV p.cv (.slice ah m.heap.length ch) p.ep,.int .i64 c] w' fun e w''=>e=.returned (.int .i64 (k:Int))/\Below w'.heap.size w' w'':=fun w' hb=>by
  have:=xfD ⟨p.E.cz,m.heap,p.ep⟩ c _ _ w' (hC.later xax hb) (hH.later xaB hb);rw[hW] at this
  exact this
 rw[hcv] at hslots hS0;have hnew:∀ w':World,Below w.heap.size w w'->Calls Tryz.prog 82 #[.slice ah m.heap.length ch,.int .i64 c,.int .i64 (k:Int)] w' fun e w''=>xop w' m.heap c k e w'':=fun w' hb=>xl0 m.heap _ c k w' (hH.later xaB hb)
 clear h hF hM hFr hW hcv hC hH
 by_cases hc:60<=m.heap.length\/2147483647<k
 ·rw[if_pos hc] at HE;rw[HE.out];have HC:=hid hc;clear hc;go_enter Tryz.func275,Tryz.ntmps275;go_wp2;have tokA:True:=trivial
  go_region_held3 (fun w'=>w'.cell? ⟨mb,0,none⟩=some (.slice ac p.E.cz.length cc)/\w'.cell? ⟨mb,1,none⟩=some (.slice ah m.heap.length ch)/\w'.cell? ⟨mb,2,none⟩=some (.int .i64 p.ep)/\MkS w mb (.slice ac p.E.cz.length cc) (.slice ah m.heap.length ch) p.ep w')
   (first | with_reducible exact hS0.al | with_reducible exact hY.al | with_reducible exact hY2.al | exact (hY2.later (xai _ _)).al | exact ((‹_/\_/\_/\MkS w mb (.slice ac p.E.cz.length cc) (.slice ah m.heap.length ch) p.ep _›).2.2.2.later (xai _ _)).al | exact ((hY2.set (by omega) _ _).set (by omega) _ _).al)
   (first
    | (have _t:=tokA;go_at_call 83;refine (hslots _ (‹_/\_/\_/\MkS w mb (.slice ac p.E.cz.length cc) (.slice ah m.heap.length ch) p.ep _›).2.2.2.bel).mono ?_;rintro e w1 ⟨rfl,hb1⟩;have hY:=(‹_/\_/\_/\MkS w mb (.slice ac p.E.cz.length cc) (.slice ah m.heap.length ch) p.ep _›).2.2.2.later hb1;clear tokA;have tokB:True:=trivial;obtain⟨hc1,hf1⟩:=xfQ hb1;have hz1:=hY.bel.size;try (have hl:=qzE (xqu w _) hb1.size))
    | (have _t:=tokB;go_at_call 82;refine (hnew _ (‹_/\_/\_/\MkS w mb (.slice ac p.E.cz.length cc) (.slice ah m.heap.length ch) p.ep _›).2.2.2.bel).mono ?_;rintro e w2 ⟨hb2,hp1,-⟩;obtain rfl:=hp1 HC.out;clear hp1;have hY2:=(‹_/\_/\_/\MkS w mb (.slice ac p.E.cz.length cc) (.slice ah m.heap.length ch) p.ep _›).2.2.2.later hb2;have hsz0:=(‹_/\_/\_/\MkS w mb (.slice ac p.E.cz.length cc) (.slice ah m.heap.length ch) p.ep _›).2.2.2.bel.size;clear tokB;obtain⟨hc2,hf2⟩:=xfQ hb2;have hz2:=hb2.size;have hz3:=hb1.size))
  all_goals (
   have HBF:=hid (‹_/\_/\_/\MkS w mb (.slice ac p.E.cz.length cc) (.slice ah m.heap.length ch) p.ep _›).2.2.2.bel;clear hY hY2;go_wp2
   go_ret
   exact⟨rfl,⟨T,.refl _ _,⟨_,_,_,HM.out.later HBF.out⟩,fun h=>absurd h (by simp)⟩,Kp.of_below HBF.out⟩)
 ·rw[if_neg hc] at HE;rw[HE.out];have HC:=hid hc;clear hc;go_enter Tryz.func275,Tryz.ntmps275;go_wp2;have tokA:True:=trivial
  go_region_held3 (fun w'=>w'.cell? ⟨mb,0,none⟩=some (.slice ac p.E.cz.length cc)/\w'.cell? ⟨mb,1,none⟩=some (.slice ah m.heap.length ch)/\w'.cell? ⟨mb,2,none⟩=some (.int .i64 p.ep)/\MkS w mb (.slice ac p.E.cz.length cc) (.slice ah m.heap.length ch) p.ep w')
   (first | with_reducible exact hS0.al | with_reducible exact hY.al | with_reducible exact hY2.al | exact (hY2.later (xai _ _)).al | exact ((‹_/\_/\_/\MkS w mb (.slice ac p.E.cz.length cc) (.slice ah m.heap.length ch) p.ep _›).2.2.2.later (xai _ _)).al | exact ((hY2.set (by omega) _ _).set (by omega) _ _).al)
   (first
    | (have _t:=tokA;go_at_call 83;refine (hslots _ (‹_/\_/\_/\MkS w mb (.slice ac p.E.cz.length cc) (.slice ah m.heap.length ch) p.ep _›).2.2.2.bel).mono ?_;rintro e w1 ⟨rfl,hb1⟩;have hY:=(‹_/\_/\_/\MkS w mb (.slice ac p.E.cz.length cc) (.slice ah m.heap.length ch) p.ep _›).2.2.2.later hb1;clear tokA;have tokB:True:=trivial;obtain⟨hc1,hf1⟩:=xfQ hb1;have hz1:=hY.bel.size;try (have hl:=qzE (xqu w _) hb1.size))
    | (have _t:=tokB;go_at_call 82;refine (hnew _ (‹_/\_/\_/\MkS w mb (.slice ac p.E.cz.length cc) (.slice ah m.heap.length ch) p.ep _›).2.2.2.bel).mono ?_;rintro e w2 ⟨hb2,-,hp2⟩;obtain⟨g2,s2,cap2,rfl,hheap⟩:=hp2 HC.out;have hsum:=xsD T w hheap;clear hp2 hheap;have hY2:=(‹_/\_/\_/\MkS w mb (.slice ac p.E.cz.length cc) (.slice ah m.heap.length ch) p.ep _›).2.2.2.later hb2;have hsz0:=(‹_/\_/\_/\MkS w mb (.slice ac p.E.cz.length cc) (.slice ah m.heap.length ch) p.ep _›).2.2.2.bel.size;clear tokB;obtain⟨hc2,hf2⟩:=xfQ hb2;have hz2:=hb2.size;have hz3:=hb1.size))
  all_goals (
   have HW2:=hid hY2.bel;have hx2:=xaa HM.out.box HW2.out;have hm1:w2.cell? ⟨mb,1,none⟩=some (.slice ah m.heap.length ch):=by rw[qzB hx2];rfl
   have hmf:=xaq hx2;have HX2:=hid hx2;have hlm2:mb<w2.heap.size:=xam hx2;have hn1:¬ mb=w2.heap.size:=by omega
   have hn2:¬ mb=w1.heap.size:=by omega
   have hn3:¬ mb=w.heap.size:=by omega
   have hn4:¬ w2.heap.size=mb:=by omega
   have hn5:¬ w1.heap.size=mb:=by omega
   have hn6:¬ w.heap.size=mb:=by omega
   clear hY hY2 hx2;go_wp2_with fail;obtain⟨T2,hE,hH2,hT4⟩:=hsum.out;have hE2:=hE (by first | omega | (simp;omega))
   have hmt:T2 mb=1:=by rw[hE2 mb hlm];exact HM.out.tag
   have h4:∀ b,w.heap.size<=b->b<=w1.heap.size->T2 b=4:=fun b h1 h2=>hT4 b h1 (by first | omega | (simp;omega))
   refine (xmr (v:=⟨4,m.heap.length⟩) HM.out HF.out hE2 hH2
    (by first | exact xaa (xku HX2.out _ _) (xai _ _) | exact xku (by rw[xac hn2,xac hn2];exact HX2.out) _ _ | exact xku (by rw[xac hn3,xac hn3];exact HX2.out) _ _)
    (by first | exact ((Kp.refl _ _ _).set (fun _=>Or.inl hmt) _ _).on (xai _ _) | exact (((Kp.refl _ _ _).set (fun _=>Or.inr (h4 _ (by omega) (by omega))) _ _).set (fun _=>Or.inr (h4 _ (by omega) (by omega))) _ _).set (fun _=>Or.inl hmt) _ _)
    (by first | exact ((Kp.of_below HW2.out).set (fun _=>HM.out.tag) _ _).on (xai _ _) | exact (((Kp.of_below HW2.out).set (fun h=>absurd h (by omega)) _ _).set (fun h=>absurd h (by omega)) _ _).set (fun _=>HM.out.tag) _ _)
    hroom).mono ?_
   rintro e w4 ⟨rfl,q1,q2⟩;have Q1:=hid q1;have Q2:=hid q2;clear q1 q2 hc1 hf1 hc2 hf2;go_wp2
   go_ret
   obtain⟨T',a1,a2,a3⟩:=Q1.out
   exact⟨rfl,⟨T',a1,a2,fun _=>a3 (by trivial)⟩,Q2.out⟩)
end
end Go.Proofs.YtbafokihegegiaaGreatDoor
