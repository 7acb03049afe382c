/- A part. -/
import Derived.Test.YtbafokihegegiaaGreatDoorM18
import Derived.Deep.RegionWith
namespace Go.Proofs.YtbafokihegegiaaGreatDoor
open Go.ChangeShapes Go.WideShapes Go.ChangeAt Go.RowKit
set_option linter.unusedSimpArgs false
set_option linter.unusedVariables false
set_option maxHeartbeats 8000000
theorem xoN (w:World)(cs:Array Value)(t:TypeId)(n:Nat)(hn:w.heap.size=n)(o:Nat):(w.alloc (.cells cs t)).frozen? ⟨n,o,none⟩=false:=by
 subst hn
 exact World.frozen?_alloc_new _ _ _ _
theorem xd4 {p:Addr}{a0 a1 a2 a3 a4:Addr}{v0 v1 v2 v3 v4 v5:Value}{w w':World}(h:w.cell? p=some v0/\w.cell? a0=some v1/\w.cell? a1=some v2/\w.cell? a2=some v3/\w.cell? a3=some v4/\w.cell? a4=some v5)(hb:Below w.heap.size w w') :
  w'.cell? p=some v0/\w'.cell? a0=some v1/\w'.cell? a1=some v2/\w'.cell? a2=some v3/\w'.cell? a3=some v4/\w'.cell? a4=some v5:=
 ⟨qzA hb h.1,qzA hb h.2.1,qzA hb h.2.2.1,qzA hb h.2.2.2.1,qzA hb h.2.2.2.2.1,qzA hb h.2.2.2.2.2⟩
theorem xgF {p a0 a1 a2 a3 a4:Addr}{v0 v1 v2 v3 v4 v5:Value}{w:World}{d:Nat}(h:w.cell? p=some v0/\w.cell? a0=some v1/\w.cell? a1=some v2/\w.cell? a2=some v3/\w.cell? a3=some v4/\w.cell? a4=some v5)(hp:d≠p.block)(h0:d≠a0.block)(h1:d≠a1.block)(h2:d≠a2.block)(h3:d≠a3.block)(h4:d≠a4.block)(o:Nat)(u:Value) :
  (w.setCell ⟨d,o,none⟩ u).cell? p=some v0/\(w.setCell ⟨d,o,none⟩ u).cell? a0=some v1/\(w.setCell ⟨d,o,none⟩ u).cell? a1=some v2/\(w.setCell ⟨d,o,none⟩ u).cell? a2=some v3/\(w.setCell ⟨d,o,none⟩ u).cell? a3=some v4/\(w.setCell ⟨d,o,none⟩ u).cell? a4=some v5:=
 ⟨(World.cell?_setCell_far _ _ _ _ hp).trans h.1,(World.cell?_setCell_far _ _ _ _ h0).trans h.2.1,(World.cell?_setCell_far _ _ _ _ h1).trans h.2.2.1,(World.cell?_setCell_far _ _ _ _ h2).trans h.2.2.2.1,(World.cell?_setCell_far _ _ _ _ h3).trans h.2.2.2.2.1,(World.cell?_setCell_far _ _ _ _ h4).trans h.2.2.2.2.2⟩
theorem xiW {P:Nat->Prop}(X:QW)(c:Nat)(x:QC)(m:QM)(cv hv mv:Value)(w:World)(hh:xag P w cv X.cz)(hH:xav P w hv X.heap)(hM:xaG P w mv m.code)(hmn:m.name.size<=140737488351232)(hx:X.cz[c]?=some x)(hno:0<=xcR x.mz m.name):Calls Tryz.prog 80 #[WV cv hv X.ez,.int .i64 c,MV m mv] w fun e w'=>∃ cv' hv',e=.returned (.tuple #[WV cv' hv' (xd8 X.ez),.int .i64 0])/\xag (fun b=>w.heap.size<=b) w' cv' (xdf X c x m).cz/\xav (fun b=>w.heap.size<=b) w' hv' X.heap/\Below w.heap.size w w':=by
 obtain⟨ad,cap,rfl,hl,hcap,hby,hrow⟩:=id hh;obtain⟨ah,ch,rfl⟩:=hH.get;obtain⟨am,cm,rfl⟩:=hM.get;have hk:=xad hx;have hhas:xc3 X.cz.length (c:Int)=true:=by simp[xc3];omega
 have hk0:(0:Int)<=(c:Int):=by omega
 have hk1:(c:Int)<(X.cz.length:Int):=by omega
 obtain⟨b,o,rfl,-,-,-,-,-,sv,hv3,hms⟩:=hrow c x hx;obtain⟨ad2,cap2,rfl,hl2,hcap2,hby2,-⟩:=id hms;have hat:=xq5 hno;obtain⟨at',hat'⟩:∃ at':Nat,xcR x.mz m.name=(at':Int):=⟨(xcR x.mz m.name).toNat,by omega⟩
 have hatl:at'<x.mz.length:=by omega
 have hq0:(0:Int)<=(at':Int):=by omega
 have hq1:(at':Int)<(x.mz.length:Int):=by omega
 clear hrow;go_enter Tryz.func80,Tryz.ntmps80;go_wp2_with fail;refine (xdD _ _ _ _ _ _ _ _ _).mono ?_;rintro e w1 ⟨rfl,hb⟩;rw[hhas];have hB:=xaf (xeQ _ _ _ _) hb;obtain⟨hc,hf⟩:=xfQ hb;have hz:w.heap.size+1+1<w1.heap.size:=by have:=hb.size;simp at this;omega
 have v3:=qzA hB hv3;go_wp2_with fail;refine (xc6 x.mz _ m.name _ (hms.later xbj hB)).mono ?_;rintro e w2 ⟨rfl,hb2⟩;rw[hat'];have hz2:=hb2.size;have a0:w1.cell? ⟨w.heap.size,0,none⟩=some (Value.slice (some ⟨b,o,none⟩) X.cz.length cap):=qzA hb (qzA (xbp _ _ _) (by rw[xab _ _ _ _ rfl];rfl))
 replace a0:=qzA hb2 a0;have a1:w1.cell? ⟨w.heap.size,1,none⟩=some (Value.slice ah X.heap.length ch):=qzA hb (qzA (xbp _ _ _) (by rw[xab _ _ _ _ rfl];rfl))
 replace a1:=qzA hb2 a1;have a2:w1.cell? ⟨w.heap.size,2,none⟩=some (Value.int .i64 X.ez):=qzA hb (qzA (xbp _ _ _) (by rw[xab _ _ _ _ rfl];rfl))
 replace a2:=qzA hb2 a2;have m0:w1.cell? ⟨w.heap.size+1,0,none⟩=some (.string m.name):=qzA hb (qzA (xai _ _) (by rw[xab _ _ _ _ (by simp)];rfl))
 replace m0:=qzA hb2 m0;have m1:w1.cell? ⟨w.heap.size+1,1,none⟩=some (.int .i64 m.args):=qzA hb (qzA (xai _ _) (by rw[xab _ _ _ _ (by simp)];rfl))
 replace m1:=qzA hb2 m1;have m2:w1.cell? ⟨w.heap.size+1,2,none⟩=some (.int .i64 m.temps):=qzA hb (qzA (xai _ _) (by rw[xab _ _ _ _ (by simp)];rfl))
 replace m2:=qzA hb2 m2;have m3:w1.cell? ⟨w.heap.size+1,3,none⟩=some (.int .i64 m.prim):=qzA hb (qzA (xai _ _) (by rw[xab _ _ _ _ (by simp)];rfl))
 replace m3:=qzA hb2 m3;have m4:w1.cell? ⟨w.heap.size+1,4,none⟩=some (.slice am m.code.length cm):=qzA hb (qzA (xai _ _) (by rw[xab _ _ _ _ (by simp)];rfl))
 replace m4:=qzA hb2 m4;have r0:w1.cell? ⟨w.heap.size+1+1,0,none⟩=some (Value.slice none 0 0):=qzA hb (by rw[xab _ _ _ _ (by simp)];rfl)
 replace r0:=qzA hb2 r0;have r1:w1.cell? ⟨w.heap.size+1+1,1,none⟩=some (Value.slice none 0 0):=qzA hb (by rw[xab _ _ _ _ (by simp)];rfl)
 replace r1:=qzA hb2 r1;have r2:w1.cell? ⟨w.heap.size+1+1,2,none⟩=some (Value.int .i64 0):=qzA hb (by rw[xab _ _ _ _ (by simp)];rfl)
 replace r2:=qzA hb2 r2;have rf:∀ o,w2.frozen? ⟨w.heap.size+1+1,o,none⟩=false:=fun o=>(hb2.frozen (by show w.heap.size+1+1<w1.heap.size;omega)).trans (by rw[hf _ _ (by simp)];exact xoN _ _ _ _ (by simp) _)
 clear hc hf;have hB2:=xaf hB hb2;go_wp2_with fail;refine (xiI X _ _ _ (hh.later xax hB2) (hH.later xaB hB2)).mono ?_;rintro e w3 ⟨g,gh,s,rfl,hO,hHo,hg,hb3⟩;have hz3:=hb3.size;obtain⟨gc,hgc,hlo,-⟩:=(hO.2.2.2.2 c x hk hx).meths;have hsn:=hO.2.2.2.1;have hs0:=hO.2.1;have hsc:=hO.mono 0 c (by omega) (by omega)
 have hsc1:=hO.mono (c+1) X.cz.length (by omega) (qzC _)
 obtain⟨-,-,-,-,gc',hgc',-,hghi,-,cur,hcur,hcs⟩:=hO.2.2.2.2 c x hk hx;obtain rfl:gc=gc':=by rw[hgc] at hgc';cases hgc';rfl
 have hB4:Below w2.heap.size w2 (w3.alloc (Obj.cells #[Value.slice (some ⟨g,0,none⟩) X.cz.length X.cz.length,Value.slice (some ⟨gh,0,none⟩) X.heap.length X.heap.length,Value.int .i64 X.ez] 26)):=xaf hb3 (xai _ _);have hB3:=xai w3 (Obj.cells #[Value.slice (some ⟨g,0,none⟩) X.cz.length X.cz.length,Value.slice (some ⟨gh,0,none⟩) X.heap.length X.heap.length,Value.int .i64 X.ez] 26);have n0:(w3.alloc (Obj.cells #[Value.slice (some ⟨g,0,none⟩) X.cz.length X.cz.length,Value.slice (some ⟨gh,0,none⟩) X.heap.length X.heap.length,Value.int .i64 X.ez] 26)).cell? ⟨w3.heap.size,0,none⟩=some (.slice (some ⟨g,0,none⟩) X.cz.length X.cz.length):=by rw[xab _ _ _ _ rfl];rfl
 have n1:(w3.alloc (Obj.cells #[Value.slice (some ⟨g,0,none⟩) X.cz.length X.cz.length,Value.slice (some ⟨gh,0,none⟩) X.heap.length X.heap.length,Value.int .i64 X.ez] 26)).cell? ⟨w3.heap.size,1,none⟩=some (.slice (some ⟨gh,0,none⟩) X.heap.length X.heap.length):=by rw[xab _ _ _ _ rfl];rfl
 have n2:(w3.alloc (Obj.cells #[Value.slice (some ⟨g,0,none⟩) X.cz.length X.cz.length,Value.slice (some ⟨gh,0,none⟩) X.heap.length X.heap.length,Value.int .i64 X.ez] 26)).cell? ⟨w3.heap.size,2,none⟩=some (.int .i64 X.ez):=by rw[xab _ _ _ _ rfl];rfl
 have nf:∀ o,(w3.alloc (Obj.cells #[Value.slice (some ⟨g,0,none⟩) X.cz.length X.cz.length,Value.slice (some ⟨gh,0,none⟩) X.heap.length X.heap.length,Value.int .i64 X.ez] 26)).frozen? ⟨w3.heap.size,o,none⟩=false:=fun o=>World.frozen?_alloc_new _ _ _ _
 have hS:(w3.alloc (Obj.cells #[Value.slice (some ⟨g,0,none⟩) X.cz.length X.cz.length,Value.slice (some ⟨gh,0,none⟩) X.heap.length X.heap.length,Value.int .i64 X.ez] 26)).cell? ⟨g,c*4+3,none⟩=some (.slice (some ⟨gc,0,none⟩) x.mz.length x.mz.length)/\(w3.alloc (Obj.cells #[Value.slice (some ⟨g,0,none⟩) X.cz.length X.cz.length,Value.slice (some ⟨gh,0,none⟩) X.heap.length X.heap.length,Value.int .i64 X.ez] 26)).cell? ⟨w.heap.size+1,0,none⟩=some (.string m.name)/\(w3.alloc (Obj.cells #[Value.slice (some ⟨g,0,none⟩) X.cz.length X.cz.length,Value.slice (some ⟨gh,0,none⟩) X.heap.length X.heap.length,Value.int .i64 X.ez] 26)).cell? ⟨w.heap.size+1,1,none⟩=some (.int .i64 m.args)/\(w3.alloc (Obj.cells #[Value.slice (some ⟨g,0,none⟩) X.cz.length X.cz.length,Value.slice (some ⟨gh,0,none⟩) X.heap.length X.heap.length,Value.int .i64 X.ez] 26)).cell? ⟨w.heap.size+1,2,none⟩=some (.int .i64 m.temps)/\(w3.alloc (Obj.cells #[Value.slice (some ⟨g,0,none⟩) X.cz.length X.cz.length,Value.slice (some ⟨gh,0,none⟩) X.heap.length X.heap.length,Value.int .i64 X.ez] 26)).cell? ⟨w.heap.size+1,3,none⟩=some (.int .i64 m.prim)/\(w3.alloc (Obj.cells #[Value.slice (some ⟨g,0,none⟩) X.cz.length X.cz.length,Value.slice (some ⟨gh,0,none⟩) X.heap.length X.heap.length,Value.int .i64 X.ez] 26)).cell? ⟨w.heap.size+1,4,none⟩=some (.slice am m.code.length cm):=⟨qzA hB3 hgc,qzA hB4 m0,qzA hB4 m1,qzA hB4 m2,qzA hB4 m3,qzA hB4 m4⟩
 go_wp2_with fail;have hz4:(w3.alloc (Obj.cells #[Value.slice (some ⟨g,0,none⟩) X.cz.length X.cz.length,Value.slice (some ⟨gh,0,none⟩) X.heap.length X.heap.length,Value.int .i64 X.ez] 26)).heap.size=w3.heap.size+1:=by simp
 have hcM:=hM.later xaU (xaf hB2 hB4);have hms4:=hms.later xbj (xaf hB2 hB4);have hBB:=xaf hB2 hB4;have hO4:=hO.later hB3;have hHo4:=hHo.later xaB hB3;have hcur4:=(hB3.block _ (xam hcur)).trans hcur;have hcs4:=hcs.later xbj hB3;replace r0:=qzA hB4 r0;replace r1:=qzA hB4 r1;replace r2:=qzA hB4 r2;replace rf:∀ o,(w3.alloc (Obj.cells #[Value.slice (some ⟨g,0,none⟩) X.cz.length X.cz.length,Value.slice (some ⟨gh,0,none⟩) X.heap.length X.heap.length,Value.int .i64 X.ez] 26)).frozen? ⟨w.heap.size+1+1,o,none⟩=false:=fun o=>(hB4.frozen (by simp;omega)).trans (rf o)
 clear hcs hcur hO hHo hB3 hB4 m0 m1 m2 m3 m4 a0 a1 a2 v3 hgc hb3;generalize (w3.alloc (Obj.cells #[Value.slice (some ⟨g,0,none⟩) X.cz.length X.cz.length,Value.slice (some ⟨gh,0,none⟩) X.heap.length X.heap.length,Value.int .i64 X.ez] 26))=W4 at *;have hSd:W4.drew.cell? ⟨g,c*4+3,none⟩=some (.slice (some ⟨gc,0,none⟩) x.mz.length x.mz.length)/\W4.drew.cell? ⟨w.heap.size+1,0,none⟩=some (.string m.name)/\W4.drew.cell? ⟨w.heap.size+1,1,none⟩=some (.int .i64 m.args)/\W4.drew.cell? ⟨w.heap.size+1,2,none⟩=some (.int .i64 m.temps)/\W4.drew.cell? ⟨w.heap.size+1,3,none⟩=some (.int .i64 m.prim)/\W4.drew.cell? ⟨w.heap.size+1,4,none⟩=some (.slice am m.code.length cm):=hS
 have hcMd:=hcM.later xaU (Below.refl _ _).drew;have hcurd:W4.drew.heap[gc]?=some (.cells cur 51 (0,0)):=hcur4;have hcl:cur.size=x.mz.length*5:=by simpa using hcs4.1
 have hn1:gc≠g:=by omega
 have hn2:gc≠w.heap.size+1:=by omega
 go_region_held3 (fun w'=>w'.cell? ⟨g,c*4+3,none⟩=some (.slice (some ⟨gc,0,none⟩) x.mz.length x.mz.length)/\w'.cell? ⟨w.heap.size+1,0,none⟩=some (.string m.name)/\w'.cell? ⟨w.heap.size+1,1,none⟩=some (.int .i64 m.args)/\w'.cell? ⟨w.heap.size+1,2,none⟩=some (.int .i64 m.temps)/\w'.cell? ⟨w.heap.size+1,3,none⟩=some (.int .i64 m.prim)/\w'.cell? ⟨w.heap.size+1,4,none⟩=some (.slice am m.code.length cm))
  (first | with_reducible exact hSd | with_reducible exact hY | with_reducible exact xgF (xgF (xgF (xgF (xgF hY hn1 hn2 hn2 hn2 hn2 hn2 _ _) hn1 hn2 hn2 hn2 hn2 hn2 _ _) hn1 hn2 hn2 hn2 hn2 hn2 _ _) hn1 hn2 hn2 hn2 hn2 hn2 _ _) hn1 hn2 hn2 hn2 hn2 hn2 _ _)
  (first | (go_at_call 76;refine (xeJ m _ _ hcMd).mono ?_;rintro e w5 ⟨a',c',rfl,hcv,hb5⟩;have hY:=xd4 hSd hb5;have hcur5:=(hb5.block _ (xam hcurd)).trans hcurd;have f5:∀ o,w5.frozen? ⟨gc,o,none⟩=false:=(fun o=>(by simp only[World.frozen?,hcur5];simp));have e0:w5.cell? ⟨gc,at'*5,none⟩=some (cur[at'*5]'(by omega)):=(by rw[qzB hcur5];simp);have e1:w5.cell? ⟨gc,at'*5+1,none⟩=some (cur[at'*5+1]'(by omega)):=(by rw[qzB hcur5];simp);have e2:w5.cell? ⟨gc,at'*5+2,none⟩=some (cur[at'*5+2]'(by omega)):=(by rw[qzB hcur5];simp);have e3:w5.cell? ⟨gc,at'*5+3,none⟩=some (cur[at'*5+3]'(by omega)):=(by rw[qzB hcur5];simp);have e4:w5.cell? ⟨gc,at'*5+4,none⟩=some (cur[at'*5+4]'(by omega)):=(by rw[qzB hcur5];simp)))
 have hB5:Below W4.heap.size W4 w5:=xaf (Below.refl _ _).drew hb5;have hz5:=hB5.size;have hcs5:=hcs4.later xbj hB5;have hIM:=xoI (Q:=fun b=>w.heap.size<=b/\b≠w3.heap.size/\b≠w.heap.size+1+1) (m:=m) (vs:=[.string m.name,.int .i64 m.args,.int .i64 m.temps,.int .i64 m.prim,.slice a' m.code.length c']) hcur5 hcs5 hatl rfl ⟨rfl,rfl,rfl,rfl,hmn,_,rfl,hcv.mono xaU fun b hb=>by have:=hb.1;simp only[World.size_drew] at this;omega⟩ ⟨by omega,by omega,by omega⟩ (fun b h1 h2=>⟨by omega,by omega,by omega⟩) hby2
 have hK6:∀ b,b≠gc->(w5.setCells gc (at'*5) [.string m.name,.int .i64 m.args,.int .i64 m.temps,.int .i64 m.prim,.slice a' m.code.length c']).heap[b]?=w5.heap[b]?:=fun b hb=>xaF hb _ _ _
 have hz6:(w5.setCells gc (at'*5) [.string m.name,.int .i64 m.args,.int .i64 m.temps,.int .i64 m.prim,.slice a' m.code.length c']).heap.size=w5.heap.size:=xbq _ _ _;have hb6:Below (w.heap.size) w (w5.setCells gc (at'*5) [.string m.name,.int .i64 m.args,.int .i64 m.temps,.int .i64 m.prim,.slice a' m.code.length c']):=(((((xaf hBB hB5).setCell (by simp;omega) _).setCell (by simp;omega) _).setCell (by simp;omega) _).setCell (by simp;omega) _).setCell (by simp;omega) _
 change Exit.then _ _ Exit.normal _ (w5.setCells gc (at'*5) [.string m.name,.int .i64 m.args,.int .i64 m.temps,.int .i64 m.prim,.slice a' m.code.length c']);generalize (w5.setCells gc (at'*5) [.string m.name,.int .i64 m.args,.int .i64 m.temps,.int .i64 m.prim,.slice a' m.code.length c'])=W6 at *;have hKK:Keeps (fun b=>b≠gc) W4 W6:=(Keeps.of_below hB5).trans (Keeps.of_block fun b hb _=>hK6 b hb)
 have hFF:∀ b o,b≠gc->b<W4.heap.size->W6.frozen? ⟨b,o,none⟩=W4.frozen? ⟨b,o,none⟩:=fun b o hb hl=>by
  rw[← hB5.frozen (p:=⟨b,o,none⟩) hl];simp only[World.frozen?,hK6 b hb]
 have hMS:(xdf X c x m).cz=X.cz.set c { x with mz:=x.mz.set at' m }:=by
  simp only[xdf,xmC,if_pos hno];rw[hat']
  rfl
 have q0:=hKK _ _ _ (by show w3.heap.size≠gc;omega) n0
 have q1:=hKK _ _ _ (by show w3.heap.size≠gc;omega) n1
 have q2:=hKK _ _ _ (by show w3.heap.size≠gc;omega) n2
 have qf:∀ o,W6.frozen? ⟨w3.heap.size,o,none⟩=false:=fun o=>(hFF _ o (by omega) (by omega)).trans (nf o)
 have s0:=hKK _ _ _ (by show w.heap.size+1+1≠gc;omega) r0
 have s1:=hKK _ _ _ (by show w.heap.size+1+1≠gc;omega) r1
 have s2:=hKK _ _ _ (by show w.heap.size+1+1≠gc;omega) r2
 have sf:∀ o,W6.frozen? ⟨w.heap.size+1+1,o,none⟩=false:=fun o=>(hFF _ o (by omega) (by omega)).trans (rf o)
 have qs:=xa9 q2 (.int .i64 (wrap64 (X.ez+1)));have hne1:¬ w3.heap.size=w.heap.size+1+1:=by omega
 have hne2:¬ w.heap.size+1+1=w3.heap.size:=by omega
 clear hSd hcMd hcurd hY e0 e1 e2 e3 e4 f5 n0 n1 n2 r0 r1 r2 hB hB2 hv3 hb hb2;go_wp2;have hKF:Keeps (fun b=>b≠w3.heap.size/\b≠w.heap.size+1+1) W6 ((((W6.setCell ⟨w3.heap.size,2,none⟩ (.int .i64 (wrap64 (X.ez+1)))).setCell ⟨w.heap.size+1+1,0,none⟩ (.slice (some ⟨g,0,none⟩) X.cz.length X.cz.length)).setCell ⟨w.heap.size+1+1,1,none⟩ (.slice (some ⟨gh,0,none⟩) X.heap.length X.heap.length)).setCell ⟨w.heap.size+1+1,2,none⟩ (.int .i64 (wrap64 (X.ez+1)))):=xas (xas (xas (xas (Keeps.refl _ _) (fun h=>h.1 rfl) _) (fun h=>h.2 rfl) _) (fun h=>h.2 rfl) _) (fun h=>h.2 rfl) _
 have hbF:Below w.heap.size w ((((W6.setCell ⟨w3.heap.size,2,none⟩ (.int .i64 (wrap64 (X.ez+1)))).setCell ⟨w.heap.size+1+1,0,none⟩ (.slice (some ⟨g,0,none⟩) X.cz.length X.cz.length)).setCell ⟨w.heap.size+1+1,1,none⟩ (.slice (some ⟨gh,0,none⟩) X.heap.length X.heap.length)).setCell ⟨w.heap.size+1+1,2,none⟩ (.int .i64 (wrap64 (X.ez+1)))):=(((hb6.setCell (by simp;omega) _).setCell (by simp;omega) _).setCell (by simp;omega) _).setCell (by simp;omega) _
 refine bodyPost_ret (v:=.tuple #[WV (.slice (some ⟨g,0,none⟩) X.cz.length X.cz.length) (.slice (some ⟨gh,0,none⟩) X.heap.length X.heap.length) (xd8 X.ez),.int .i64 0]) ?_ rfl ⟨_,_,rfl,?_,?_,hbF⟩
 ·simp[results,Tryz.results80,go_sem,s0,s1,s2,hne1,hne2,xd8]
 ·rw[hMS];refine xhi (w:=W4) (L:=w.heap.size) hO4 hx hby (by omega) (fun o v ho hv=>hKF _ _ _ ⟨by omega,by omega⟩ (hKK _ _ _ (by show g≠gc;omega) hv)) (hKF _ _ _ ⟨by omega,by omega⟩ (hKK _ _ _ (by show g≠gc;omega) hS.1)) (fun i hi hil=>?_) (hIM.keep xbj (hKF.mono fun b hb=>⟨hb.2.1,hb.2.2⟩) fun b hb=>hb.1)
  have k1:=hO4.mono 0 i (by omega) (by omega)
  have k2:=hO4.mono (i+1) X.cz.length (by omega) (qzC _)
  have k3:i<c->s (i+1)<=s c:=fun h=>hO4.mono (i+1) c (by omega) (by omega)
  have k4:c<i->s (c+1)<=s i:=fun h=>hO4.mono (c+1) i (by omega) (by omega)
  exact (hKK.mono fun b hb=>by show b≠_;rcases Nat.lt_or_gt_of_ne hi with h | h;have:=k3 h;omega;have:=k4 h;omega).trans (hKF.mono fun b hb=>⟨by omega,by omega⟩)
 ·exact hHo4.keep xaB ((hKK.mono fun b hb=>by show b≠_;omega).trans (hKF.mono fun b hb=>⟨by omega,by omega⟩)) fun b hb=>by omega
theorem xli {P:Nat->Prop}(X:QW)(c:Nat)(x:QC)(m:QM)(cv hv mv:Value)(w:World)(hh:xag P w cv X.cz)(hH:xav P w hv X.heap)(hM:xaG P w mv m.code)(hmn:m.name.size<=140737488351232)(hx:X.cz[c]?=some x)(hno:xcR x.mz m.name<0)(h8:x.mz.length<8):Calls Tryz.prog 80 #[WV cv hv X.ez,.int .i64 c,MV m mv] w fun e w'=>∃ cv' hv',e=.returned (.tuple #[WV cv' hv' (xd8 X.ez),.int .i64 0])/\xag (fun b=>w.heap.size<=b) w' cv' (xdf X c x m).cz/\xav (fun b=>w.heap.size<=b) w' hv' X.heap/\Below w.heap.size w w':=by
 obtain⟨ad,cap,rfl,hl,hcap,hby,hrow⟩:=id hh;obtain⟨ah,ch,rfl⟩:=hH.get;obtain⟨am,cm,rfl⟩:=hM.get;have hk:=xad hx;have hhas:xc3 X.cz.length (c:Int)=true:=by simp[xc3];omega
 have hk0:(0:Int)<=(c:Int):=by omega
 have hk1:(c:Int)<(X.cz.length:Int):=by omega
 obtain⟨b,o,rfl,-,-,-,-,-,sv,hv3,hms⟩:=hrow c x hx;obtain⟨ad2,cap2,rfl,hl2,hcap2,hby2,-⟩:=id hms;have h8':(x.mz.length:Int)<(8:Int):=by omega
 clear hrow;go_enter Tryz.func80,Tryz.ntmps80;go_wp2_with fail;refine (xdD _ _ _ _ _ _ _ _ _).mono ?_;rintro e w1 ⟨rfl,hb⟩;rw[hhas];have hB:=xaf (xeQ _ _ _ _) hb;obtain⟨hc,hf⟩:=xfQ hb;have hz:w.heap.size+1+1<w1.heap.size:=by have:=hb.size;simp at this;omega
 have v3:=qzA hB hv3;go_wp2_with fail;refine (xc6 x.mz _ m.name _ (hms.later xbj hB)).mono ?_;rintro e w2 ⟨rfl,hb2⟩;have hz2:=hb2.size;have a0:w1.cell? ⟨w.heap.size,0,none⟩=some (Value.slice (some ⟨b,o,none⟩) X.cz.length cap):=qzA hb (qzA (xbp _ _ _) (by rw[xab _ _ _ _ rfl];rfl))
 replace a0:=qzA hb2 a0;have a1:w1.cell? ⟨w.heap.size,1,none⟩=some (Value.slice ah X.heap.length ch):=qzA hb (qzA (xbp _ _ _) (by rw[xab _ _ _ _ rfl];rfl))
 replace a1:=qzA hb2 a1;have a2:w1.cell? ⟨w.heap.size,2,none⟩=some (Value.int .i64 X.ez):=qzA hb (qzA (xbp _ _ _) (by rw[xab _ _ _ _ rfl];rfl))
 replace a2:=qzA hb2 a2;have m0:w1.cell? ⟨w.heap.size+1,0,none⟩=some (.string m.name):=qzA hb (qzA (xai _ _) (by rw[xab _ _ _ _ (by simp)];rfl))
 replace m0:=qzA hb2 m0;have m1:w1.cell? ⟨w.heap.size+1,1,none⟩=some (.int .i64 m.args):=qzA hb (qzA (xai _ _) (by rw[xab _ _ _ _ (by simp)];rfl))
 replace m1:=qzA hb2 m1;have m2:w1.cell? ⟨w.heap.size+1,2,none⟩=some (.int .i64 m.temps):=qzA hb (qzA (xai _ _) (by rw[xab _ _ _ _ (by simp)];rfl))
 replace m2:=qzA hb2 m2;have m3:w1.cell? ⟨w.heap.size+1,3,none⟩=some (.int .i64 m.prim):=qzA hb (qzA (xai _ _) (by rw[xab _ _ _ _ (by simp)];rfl))
 replace m3:=qzA hb2 m3;have m4:w1.cell? ⟨w.heap.size+1,4,none⟩=some (.slice am m.code.length cm):=qzA hb (qzA (xai _ _) (by rw[xab _ _ _ _ (by simp)];rfl))
 replace m4:=qzA hb2 m4;have r0:w1.cell? ⟨w.heap.size+1+1,0,none⟩=some (Value.slice none 0 0):=qzA hb (by rw[xab _ _ _ _ (by simp)];rfl)
 replace r0:=qzA hb2 r0;have r1:w1.cell? ⟨w.heap.size+1+1,1,none⟩=some (Value.slice none 0 0):=qzA hb (by rw[xab _ _ _ _ (by simp)];rfl)
 replace r1:=qzA hb2 r1;have r2:w1.cell? ⟨w.heap.size+1+1,2,none⟩=some (Value.int .i64 0):=qzA hb (by rw[xab _ _ _ _ (by simp)];rfl)
 replace r2:=qzA hb2 r2;have rf:∀ o,w2.frozen? ⟨w.heap.size+1+1,o,none⟩=false:=fun o=>(hb2.frozen (by show w.heap.size+1+1<w1.heap.size;omega)).trans (by rw[hf _ _ (by simp)];exact xoN _ _ _ _ (by simp) _)
 clear hc hf;have hB2:=xaf hB hb2;go_wp2_with fail;refine (xiI X _ _ _ (hh.later xax hB2) (hH.later xaB hB2)).mono ?_;rintro e w3 ⟨g,gh,s,rfl,hO,hHo,hg,hb3⟩;have hz3:=hb3.size;obtain⟨gc,hgc,hlo,-⟩:=(hO.2.2.2.2 c x hk hx).meths;have hsn:=hO.2.2.2.1;have hs0:=hO.2.1;have hsc:=hO.mono 0 c (by omega) (by omega)
 have hsc1:=hO.mono (c+1) X.cz.length (by omega) (qzC _)
 obtain⟨-,-,-,-,gc',hgc',-,hghi,-,cur,hcur,hcs⟩:=hO.2.2.2.2 c x hk hx;obtain rfl:gc=gc':=by rw[hgc] at hgc';cases hgc';rfl
 have hB4:Below w2.heap.size w2 (w3.alloc (Obj.cells #[Value.slice (some ⟨g,0,none⟩) X.cz.length X.cz.length,Value.slice (some ⟨gh,0,none⟩) X.heap.length X.heap.length,Value.int .i64 X.ez] 26)):=xaf hb3 (xai _ _);have hB3:=xai w3 (Obj.cells #[Value.slice (some ⟨g,0,none⟩) X.cz.length X.cz.length,Value.slice (some ⟨gh,0,none⟩) X.heap.length X.heap.length,Value.int .i64 X.ez] 26);have n0:(w3.alloc (Obj.cells #[Value.slice (some ⟨g,0,none⟩) X.cz.length X.cz.length,Value.slice (some ⟨gh,0,none⟩) X.heap.length X.heap.length,Value.int .i64 X.ez] 26)).cell? ⟨w3.heap.size,0,none⟩=some (.slice (some ⟨g,0,none⟩) X.cz.length X.cz.length):=by rw[xab _ _ _ _ rfl];rfl
 have n1:(w3.alloc (Obj.cells #[Value.slice (some ⟨g,0,none⟩) X.cz.length X.cz.length,Value.slice (some ⟨gh,0,none⟩) X.heap.length X.heap.length,Value.int .i64 X.ez] 26)).cell? ⟨w3.heap.size,1,none⟩=some (.slice (some ⟨gh,0,none⟩) X.heap.length X.heap.length):=by rw[xab _ _ _ _ rfl];rfl
 have n2:(w3.alloc (Obj.cells #[Value.slice (some ⟨g,0,none⟩) X.cz.length X.cz.length,Value.slice (some ⟨gh,0,none⟩) X.heap.length X.heap.length,Value.int .i64 X.ez] 26)).cell? ⟨w3.heap.size,2,none⟩=some (.int .i64 X.ez):=by rw[xab _ _ _ _ rfl];rfl
 have nf:∀ o,(w3.alloc (Obj.cells #[Value.slice (some ⟨g,0,none⟩) X.cz.length X.cz.length,Value.slice (some ⟨gh,0,none⟩) X.heap.length X.heap.length,Value.int .i64 X.ez] 26)).frozen? ⟨w3.heap.size,o,none⟩=false:=fun o=>World.frozen?_alloc_new _ _ _ _
 have hS:(w3.alloc (Obj.cells #[Value.slice (some ⟨g,0,none⟩) X.cz.length X.cz.length,Value.slice (some ⟨gh,0,none⟩) X.heap.length X.heap.length,Value.int .i64 X.ez] 26)).cell? ⟨g,c*4+3,none⟩=some (.slice (some ⟨gc,0,none⟩) x.mz.length x.mz.length)/\(w3.alloc (Obj.cells #[Value.slice (some ⟨g,0,none⟩) X.cz.length X.cz.length,Value.slice (some ⟨gh,0,none⟩) X.heap.length X.heap.length,Value.int .i64 X.ez] 26)).cell? ⟨w.heap.size+1,0,none⟩=some (.string m.name)/\(w3.alloc (Obj.cells #[Value.slice (some ⟨g,0,none⟩) X.cz.length X.cz.length,Value.slice (some ⟨gh,0,none⟩) X.heap.length X.heap.length,Value.int .i64 X.ez] 26)).cell? ⟨w.heap.size+1,1,none⟩=some (.int .i64 m.args)/\(w3.alloc (Obj.cells #[Value.slice (some ⟨g,0,none⟩) X.cz.length X.cz.length,Value.slice (some ⟨gh,0,none⟩) X.heap.length X.heap.length,Value.int .i64 X.ez] 26)).cell? ⟨w.heap.size+1,2,none⟩=some (.int .i64 m.temps)/\(w3.alloc (Obj.cells #[Value.slice (some ⟨g,0,none⟩) X.cz.length X.cz.length,Value.slice (some ⟨gh,0,none⟩) X.heap.length X.heap.length,Value.int .i64 X.ez] 26)).cell? ⟨w.heap.size+1,3,none⟩=some (.int .i64 m.prim)/\(w3.alloc (Obj.cells #[Value.slice (some ⟨g,0,none⟩) X.cz.length X.cz.length,Value.slice (some ⟨gh,0,none⟩) X.heap.length X.heap.length,Value.int .i64 X.ez] 26)).cell? ⟨w.heap.size+1,4,none⟩=some (.slice am m.code.length cm):=⟨qzA hB3 hgc,qzA hB4 m0,qzA hB4 m1,qzA hB4 m2,qzA hB4 m3,qzA hB4 m4⟩
 go_wp2_with fail;have hz4:(w3.alloc (Obj.cells #[Value.slice (some ⟨g,0,none⟩) X.cz.length X.cz.length,Value.slice (some ⟨gh,0,none⟩) X.heap.length X.heap.length,Value.int .i64 X.ez] 26)).heap.size=w3.heap.size+1:=by simp
 have hcM:=hM.later xaU (xaf hB2 hB4);have hms4:=hms.later xbj (xaf hB2 hB4);have hBB:=xaf hB2 hB4;have hO4:=hO.later hB3;have hHo4:=hHo.later xaB hB3;have hcur4:=(hB3.block _ (xam hcur)).trans hcur;have hcs4:=hcs.later xbj hB3;replace r0:=qzA hB4 r0;replace r1:=qzA hB4 r1;replace r2:=qzA hB4 r2;replace rf:∀ o,(w3.alloc (Obj.cells #[Value.slice (some ⟨g,0,none⟩) X.cz.length X.cz.length,Value.slice (some ⟨gh,0,none⟩) X.heap.length X.heap.length,Value.int .i64 X.ez] 26)).frozen? ⟨w.heap.size+1+1,o,none⟩=false:=fun o=>(hB4.frozen (by simp;omega)).trans (rf o)
 clear hcs hcur hO hHo hB3 hB4 m0 m1 m2 m3 m4 a0 a1 a2 v3 hgc hb3;generalize (w3.alloc (Obj.cells #[Value.slice (some ⟨g,0,none⟩) X.cz.length X.cz.length,Value.slice (some ⟨gh,0,none⟩) X.heap.length X.heap.length,Value.int .i64 X.ez] 26))=W4 at *;have hpl:=xgH (xs:=x.mz) (name:=m.name);obtain⟨pp,hpp⟩:∃ pp:Nat,xcM x.mz m.name=(pp:Int):=⟨(xcM x.mz m.name).toNat,by omega⟩
 have hppl:pp<=x.mz.length:=by omega
 have hSd:W4.drew.cell? ⟨g,c*4+3,none⟩=some (.slice (some ⟨gc,0,none⟩) x.mz.length x.mz.length)/\W4.drew.cell? ⟨w.heap.size+1,0,none⟩=some (.string m.name)/\W4.drew.cell? ⟨w.heap.size+1,1,none⟩=some (.int .i64 m.args)/\W4.drew.cell? ⟨w.heap.size+1,2,none⟩=some (.int .i64 m.temps)/\W4.drew.cell? ⟨w.heap.size+1,3,none⟩=some (.int .i64 m.prim)/\W4.drew.cell? ⟨w.heap.size+1,4,none⟩=some (.slice am m.code.length cm):=hS;have hcMd:=hcM.later xaU (Below.refl _ _).drew;have hmsd:=hms4.later xbj (Below.refl _ _).drew;have hcurd:W4.drew.heap[gc]?=some (.cells cur 51 (0,0)):=hcur4;have hcl:cur.size=x.mz.length*5:=by simpa using hcs4.1
 have h1c:=hcs4.all xbj;obtain⟨⟨curg,hgg,-⟩,-⟩:=id hO4;have hggd:W4.drew.heap[g]?=some (.cells curg 80 (0,0)):=hgg;have hgw:g≠w.heap.size+1:=by omega
 go_cut [] (fun wx=>∃ g' cap',xbU (fun b=>w.heap.size<=b/\b≠w3.heap.size/\b≠w.heap.size+1+1) wx (.slice (some ⟨g',0,none⟩) (x.mz.length+1) cap') (x.mz.take pp++[m]++x.mz.drop pp)/\wx.cell? ⟨g,c*4+3,none⟩=some (.slice (some ⟨g',0,none⟩) (x.mz.length+1) cap')/\(∀ o v,o≠c*4+3->W4.cell? ⟨g,o,none⟩=some v->wx.cell? ⟨g,o,none⟩=some v)/\Keeps (fun b=>b≠g) W4 wx/\(∀ b o,b<W4.heap.size->wx.frozen? ⟨b,o,none⟩=W4.frozen? ⟨b,o,none⟩)/\Below w.heap.size w wx)
 case first=>
  obtain⟨z0,z1,z2,z3,z4,z5⟩:=id hSd
  go_region_with (first
    | (go_at_call 105;refine (xkk x.mz _ m.name _ hmsd).mono ?_;rintro e wp ⟨rfl,hbp⟩;rw[hpp];have hYp:=xd4 hSd hbp;obtain⟨p0,p1,p2,p3,p4,p5⟩:=id hYp;have hcMp:=hcMd.later xaU hbp;have hcurp:=(hbp.block _ (xam hcurd)).trans hcurd;have hggp:=(hbp.block _ (xam hggd)).trans hggd)
    | (go_at_call 76;refine (xeJ m _ _ hcMp).mono ?_;rintro e w5 ⟨a',c',rfl,hcv,hb5⟩;have hY5:=xd4 hYp hb5;obtain⟨t0,t1,t2,t3,t4,t5⟩:=id hY5;have hcur5:=(hb5.block _ (xam hcurp)).trans hcurp;have hgg5:=(hb5.block _ (xam hggp)).trans hggp;have hY5a:=(fun x=>qzA (xai w5 x) t0))
    | (go_at_call 104;refine (xkm gc x.mz.length pp _ cur [.string m.name,.int .i64 m.args,.int .i64 m.temps,.int .i64 m.prim,.slice a' m.code.length c'] _ (((xai _ _).block _ (xam hcur5)).trans hcur5) hcl (heap_alloc_new _ _) rfl h1c (by intro u hu;simp at hu;rcases hu with rfl | rfl | rfl | rfl | rfl<;>rfl) (by omega) hppl).mono ?_;rintro e w6 ⟨g',cap',cur',rfl,i1,i2,i3,i4,i5,hb6⟩;have hY:=xd4 (xd4 hY5 (xai _ _)) hb6;have y0:=hY.1;have hgg6:=(((xaf (xai _ _) hb6)).block _ (xam hgg5)).trans hgg5;have fg:∀ o,w6.frozen? ⟨g,o,none⟩=false:=(fun o=>(by simp only[World.frozen?,hgg6];simp))))
  all_goals
   have hBp:Below W4.heap.size W4 wp:=xaf (Below.refl _ _).drew hbp;have hB5:=xaf hBp hb5;have hB6:=xaf hB5 (xaf (xai _ _) hb6);have hzp:=hBp.size;have hz5:=hB5.size;have hz6:=hB6.size;have hz56:w5.heap.size+1<=g':=by simpa using i3
   have hg6:=xam i4
   have hIM:xbU (fun b=>w.heap.size<=b/\b≠g/\b≠w3.heap.size/\b≠w.heap.size+1+1) w6 (.slice (some ⟨g',0,none⟩) (x.mz.length+1) cap') (x.mz.take pp++[m]++x.mz.drop pp):=by
    have hc4:Cells xf9 5 (fun b=>w.heap.size<=b/\b≠g/\b≠w3.heap.size/\b≠w.heap.size+1+1) w6 cur.toList x.mz:=hcs4.keep xbj (.of_below hB6) fun b hb=>by omega
    have hm4:Cells xf9 5 (fun b=>w.heap.size<=b/\b≠g/\b≠w3.heap.size/\b≠w.heap.size+1+1) w6 [.string m.name,.int .i64 m.args,.int .i64 m.temps,.int .i64 m.prim,.slice a' m.code.length c'] [m]:=Cells.one xbj rfl ⟨rfl,rfl,rfl,rfl,hmn,_,rfl,(hcv.later xaU (xaf (xai _ _) hb6)).mono xaU fun b hb=>by have:=hb.1;omega⟩
    have hl:(x.mz.take pp++[m]++x.mz.drop pp).length=x.mz.length+1:=by simp;omega
    have h:=(((hc4.take xbj pp hppl).append xbj hm4).append xbj (hc4.drop xbj pp hppl)).row (bytes:=64) (g:=g') (cap:=cap') xbj ⟨by omega,by omega,by omega,by omega⟩ i4 (by rw[hl];exact i5) (by rw[hl];exact i1) i2 (by rw[hl];omega)
    rw[hl] at h
    exact h
   have hC3:(w6.setCell ⟨g,c*4+3,none⟩ (.slice (some ⟨g',0,none⟩) (x.mz.length+1) cap')).cell? ⟨g,c*4+3,none⟩=some (.slice (some ⟨g',0,none⟩) (x.mz.length+1) cap'):=xa9 hY.1 _;replace hIM:=hIM.keep xbj (xas (Keeps.refl _ _) (fun h=>h.2.1 rfl) (.slice (some ⟨g',0,none⟩) (x.mz.length+1) cap') (b:=g) (o:=c*4+3)) (Q:=fun b=>w.heap.size<=b/\b≠w3.heap.size/\b≠w.heap.size+1+1) fun b hb=>⟨hb.1,hb.2.2⟩
   have hKG:∀ o v,o≠c*4+3->W4.cell? ⟨g,o,none⟩=some v->(w6.setCell ⟨g,c*4+3,none⟩ (.slice (some ⟨g',0,none⟩) (x.mz.length+1) cap')).cell? ⟨g,o,none⟩=some v:=fun o v ho hv=>by
    rw[World.cell?_setCell_other _ _ _ _ (by intro e;cases e;exact ho rfl)]
    exact qzA hB6 hv
   have hKK:Keeps (fun b=>b≠g) W4 (w6.setCell ⟨g,c*4+3,none⟩ (.slice (some ⟨g',0,none⟩) (x.mz.length+1) cap')):=xas (Keeps.of_below hB6) (fun h=>h rfl) _
   have hFF:∀ b o,b<W4.heap.size->(w6.setCell ⟨g,c*4+3,none⟩ (.slice (some ⟨g',0,none⟩) (x.mz.length+1) cap')).frozen? ⟨b,o,none⟩=W4.frozen? ⟨b,o,none⟩:=fun b o hl=>by
    rw[World.frozen?_setCell,← hB6.frozen (p:=⟨b,o,none⟩) hl]
   have hbF6:Below w.heap.size w (w6.setCell ⟨g,c*4+3,none⟩ (.slice (some ⟨g',0,none⟩) (x.mz.length+1) cap')):=(xaf hBB hB6).setCell (by simp;omega) _
   go_wp2_with fail
   go_meet
   case rel=>exact⟨g',cap',hIM,hC3,hKG,hKK,hFF,hbF6⟩
 case rest=>
  obtain⟨g',cap',hIM,hC3,hKG,hKK,hFF,hbF6⟩:=hcut;obtain⟨W6,rfl⟩:∃ W6:World,W6=wc:=⟨_,rfl⟩
  have hMS:(xdf X c x m).cz=X.cz.set c { x with mz:=x.mz.take pp++[m]++x.mz.drop pp }:=by
   simp only[xdf,xmC,if_neg (show ¬ 0<=xcR x.mz m.name by omega)]
   rw[hpp]
   rfl
  have q0:=hKK _ _ _ (by show w3.heap.size≠g;omega) n0
  have q1:=hKK _ _ _ (by show w3.heap.size≠g;omega) n1
  have q2:=hKK _ _ _ (by show w3.heap.size≠g;omega) n2
  have qf:∀ o,W6.frozen? ⟨w3.heap.size,o,none⟩=false:=fun o=>(hFF _ o (by omega)).trans (nf o)
  have s0:=hKK _ _ _ (by show w.heap.size+1+1≠g;omega) r0
  have s1:=hKK _ _ _ (by show w.heap.size+1+1≠g;omega) r1
  have s2:=hKK _ _ _ (by show w.heap.size+1+1≠g;omega) r2
  have sf:∀ o,W6.frozen? ⟨w.heap.size+1+1,o,none⟩=false:=fun o=>(hFF _ o (by omega)).trans (rf o)
  have qs:=xa9 q2 (.int .i64 (wrap64 (X.ez+1)));have hne1:¬ w3.heap.size=w.heap.size+1+1:=by omega
  have hne2:¬ w.heap.size+1+1=w3.heap.size:=by omega
  clear hSd hcMd hcurd n0 n1 n2 r0 r1 r2 hB hB2 hv3 hb hb2 hms4 hmsd hcM;go_wp2;have hKF:Keeps (fun b=>b≠w3.heap.size/\b≠w.heap.size+1+1) W6 ((((W6.setCell ⟨w3.heap.size,2,none⟩ (.int .i64 (wrap64 (X.ez+1)))).setCell ⟨w.heap.size+1+1,0,none⟩ (.slice (some ⟨g,0,none⟩) X.cz.length X.cz.length)).setCell ⟨w.heap.size+1+1,1,none⟩ (.slice (some ⟨gh,0,none⟩) X.heap.length X.heap.length)).setCell ⟨w.heap.size+1+1,2,none⟩ (.int .i64 (wrap64 (X.ez+1)))):=xas (xas (xas (xas (Keeps.refl _ _) (fun h=>h.1 rfl) _) (fun h=>h.2 rfl) _) (fun h=>h.2 rfl) _) (fun h=>h.2 rfl) _
  have hbF:Below w.heap.size w ((((W6.setCell ⟨w3.heap.size,2,none⟩ (.int .i64 (wrap64 (X.ez+1)))).setCell ⟨w.heap.size+1+1,0,none⟩ (.slice (some ⟨g,0,none⟩) X.cz.length X.cz.length)).setCell ⟨w.heap.size+1+1,1,none⟩ (.slice (some ⟨gh,0,none⟩) X.heap.length X.heap.length)).setCell ⟨w.heap.size+1+1,2,none⟩ (.int .i64 (wrap64 (X.ez+1)))):=(((hbF6.setCell (by simp;omega) _).setCell (by simp;omega) _).setCell (by simp;omega) _).setCell (by simp;omega) _
  refine bodyPost_ret (v:=.tuple #[WV (.slice (some ⟨g,0,none⟩) X.cz.length X.cz.length) (.slice (some ⟨gh,0,none⟩) X.heap.length X.heap.length) (xd8 X.ez),.int .i64 0]) ?_ rfl ⟨_,_,rfl,?_,?_,hbF⟩
  ·simp[results,Tryz.results80,go_sem,s0,s1,s2,hne1,hne2,xd8]
  ·rw[hMS];refine xhi (w:=W4) (L:=w.heap.size) hO4 hx hby (by omega) (fun o v ho hv=>hKF _ _ _ ⟨by omega,by omega⟩ (hKG _ _ ho hv)) (hKF _ _ _ ⟨by omega,by omega⟩ hC3) (fun i hi hil=>?_) (hIM.keep xbj (hKF.mono fun b hb=>⟨hb.2.1,hb.2.2⟩) fun b hb=>hb.1)
   have k1:=hO4.mono 0 i (by omega) (by omega)
   have k2:=hO4.mono (i+1) X.cz.length (by omega) (qzC _)
   have k3:i<c->s (i+1)<=s c:=fun h=>hO4.mono (i+1) c (by omega) (by omega)
   have k4:c<i->s (c+1)<=s i:=fun h=>hO4.mono (c+1) i (by omega) (by omega)
   exact (hKK.mono fun b hb=>by show b≠_;omega).trans (hKF.mono fun b hb=>⟨by omega,by omega⟩)
  ·exact hHo4.keep xaB ((hKK.mono fun b hb=>by show b≠_;omega).trans (hKF.mono fun b hb=>⟨by omega,by omega⟩)) fun b hb=>by omega
end Go.Proofs.YtbafokihegegiaaGreatDoor
