/- A part. -/
import Derived.Test.YtbafokihegegiaaGreatDoorM6
import Derived.Lib.AppendZerosOnto
import Derived.Shelf.Spec.SlicesInsert
namespace Go.Proofs.YtbafokihegegiaaGreatDoor
open Go.ChangeShapes Go.WideShapes Go.ChangeAt Go.RowKit
set_option linter.unusedSimpArgs false
set_option linter.unusedVariables false
set_option maxHeartbeats 8000000
theorem xe5 {P:Program}(w:World)(dT sT ty elem:TypeId)(sz g d dLen len dCap:Nat)(a:Addr)(sCap:Nat)(cur:Array Value)(t:TypeId)(cs:List Value)
  (hu:P.underlying dT=some (.slice elem)) (hs:(P.info? elem).map (·.size)=some sz) (hg:w.heap[g]?=some (.cells cur t (0,0))) (hn:cs.length=len*sz) (hle:len<=dLen)
  (hsrc:∀ j v,cs[j]?=some v->w.cell? (a.add j)=some v) (hcur:d+cs.length<=cur.size) (h1:∀ v∈cs,v.oneCell'=true) :
  ∃ w',(Builtin.copy_ #[dT,sT] ty #[.slice (some ⟨g,d,none⟩) dLen dCap,.slice (some a) len sCap]).run P w=.ok (goInt len) w'/\w'.heap[g]?=some (.cells (cur.toList.take d++cs++cur.toList.drop (d+cs.length)).toArray t (0,0))/\(∀ b,b≠g->w'.heap[b]?=w.heap[b]?)/\∀ B w0,Below B w0 w->B<=g->Below B w0 w':=by
 cases hq:P.info? elem with
 | none=>simp[hq] at hs
 | some i=>
  have hi:i.size=sz:=by simpa [hq] using hs
  have hst:=run_storeCells_at P g d t cs 0 cur w hg (by simpa using hcur) h1
  have hm:Nat.min dLen len=len:=by simp only[Nat.min_def];split<;>omega
  have hfc:(Builtin.firstCells sz len (.slice (some a) len sCap)).run P w=.ok cs.toArray w:=run_firstCells_some w sz len a len sCap cs hn hsrc;refine⟨w.setRow g (cur.toList.take d++cs++cur.toList.drop (d+cs.length)).toArray,?_,setRow_heap w g cur _ t _ hg,fun b hb=>setRow_other w g b _ hb,fun B w0 hb hB=>below_setRow hb hB _⟩
  have hm2:Nat.min len dLen=len:=by simp only[Nat.min_def];split<;>omega
  simp only[Nat.add_zero,List.append_assoc] at hst
  simp[Builtin.copy_,run_underlying hu,Builtin.lenOf,sizeOf,typeInfo,hq,hi,hm,hm2,hfc,hst]
theorem xoD:(Tryz.prog.info? 51).map (·.size)=some 5:=by kernel_rfl
set_option maxRecDepth 4000 in
theorem xkB {R:Ending->World->Prop}(g n i vb G:Nat)(ROW:Array Value)(w w2 w3:World)
  (hrz:∀ ty,(Builtin.append_ #[78,3] ty #[.slice (some ⟨g,0,none⟩) i n,.int .i64 ((n:Int)+1-(i:Int))]).run Tryz.prog w=.ok (.slice (some ⟨w.heap.size,0,none⟩) (n+1) G) (w.drew.alloc (.cells ROW 51)))
  (hcpA:(Builtin.copy_ #[78,78] 3 #[.slice (some ⟨w.heap.size,i*5,none⟩) (n+1-i) (G-i),.slice (some ⟨vb,0,none⟩) 1 1]).run Tryz.prog (w.alloc (.cells ROW 51)).drew=.ok (goInt ((1:Nat):Int)) w2)
  (hcpB:(Builtin.copy_ #[78,78] 3 #[.slice (some ⟨w.heap.size,(i+1)*5,none⟩) (n+1-(i+1)) (G-(i+1)),.slice (some ⟨g,i*5,none⟩) (n-i) (n-i)]).run Tryz.prog w2.drew=.ok (goInt ((n-i:Nat):Int)) w3)
  (hi:i<n) (hn:n<1000) (hGn:n+1<=G) (hG63':(G:Int)<=9223372036854775807) (hR:R (.returned (.slice (some ⟨w.heap.size,0,none⟩) (n+1) G)) w3) :
  Calls Tryz.prog 104 #[.slice (some ⟨g,0,none⟩) n n,.int .i64 i,.slice (some ⟨vb,0,none⟩) 1 1] w R:=by
 have hni:¬ ((i:Int)=(n:Int)):=by omega
 have hi0':(0:Int)<=(i:Int):=by omega
 have hin:(i:Int)<=(n:Int):=by omega
 have hin':i<=n:=by omega
 have hnn:(n:Int)<=1000:=by omega
 have hGi:¬ (G=i):=by omega
 have hGi1:¬ (G=i+1):=by omega
 have hci:¬ (n=i):=by omega
 have hgt:(n:Int)<(n:Int)+1:=by omega
 go_enter Tryz.func104,Tryz.ntmps104
 go_wp2_with (first
  | (at_builtin;refine Lib.wpList_append_run _ rfl _ _ _ _ rfl _ _ rfl rfl _ _ (hrz _) ?_)
  | (at_builtin;refine wpList_copy_runI _ rfl _ _ 78 78 rfl _ _ rfl rfl hcpA ?_))
 have hw1:IntKind.i64.wrap ((i:Int)+1)=(i:Int)+1:=by rw[IntKind.wrap_i64];omega
 have hq1:(0:Int)<=(i:Int)+1:=by omega
 have hq2:(i:Int)+1<=(n:Int)+1:=by omega
 have htn:((i:Int)+1).toNat=i+1:=by omega
 clear hrz hcpA;have mixed:Tryz.prog.follows Departure.mixedOrders=true:=by kernel_rfl
 go_region_law_o (refine step_copy_runI rfl _ _ 78 78 rfl (.slice (some ⟨w.heap.size,(i+1)*5,none⟩) (n+1-(i+1)) (G-(i+1))) (.slice (some ⟨g,i*5,none⟩) (n-i) (n-i)) (by simp[Act.eval,Act.put]) (by simp[Act.eval,Act.put]) hcpB ?_)
 go_wp2
 exact hR
theorem xms (g n i vb:Nat)(cur:Array Value)(vs:List Value)(w:World)(hcur:w.heap[g]?=some (.cells cur 51 (0,0)))(hlen:cur.size=n*5)(hvs:w.heap[vb]?=some (.cells vs.toArray 51 (0,0)))(hvl:vs.length=5)(h1:∀ u∈cur.toList,u.oneCell'=true)(h2:∀ u∈vs,u.oneCell'=true)(hn:n<1000)(hi:i<n) :
  Calls Tryz.prog 104 #[.slice (some ⟨g,0,none⟩) n n,.int .i64 i,.slice (some ⟨vb,0,none⟩) 1 1] w fun e w'=>∃ g' cap cur',e=.returned (.slice (some ⟨g',0,none⟩) (n+1) cap)/\n+1<=cap/\cap<=maxLen/\w.heap.size<=g'/\w'.heap[g']?=some (.cells cur' 51 (0,0))/\cur'.toList.take ((n+1)*5)=cur.toList.take (i*5)++vs++cur.toList.drop (i*5)/\Below w.heap.size w w':=by
 obtain⟨i0,hi0,hz0,hzs,hzb⟩:=xbu xnI;have hgl:=xam hcur;have hvlt:=xam hvs;have hik:i+(n+1-i)=n+1:=by omega
 have hkk:(n:Int)+1-(i:Int)=((n+1-i:Nat):Int):=by omega
 have hold:(Builtin.firstCells i0.size i (.slice (some ⟨g,0,none⟩) i n)).run Tryz.prog w.drew=.ok (cur.toList.take (i*5)).toArray w.drew:=by
  rw[hzs]
  exact run_firstCells_some w.drew 5 i ⟨g,0,none⟩ i n (cur.toList.take (i*5)) (by simp;omega) (fun j v hj=>by
   rw[Addr.add_lit,Nat.zero_add,qzB (show w.drew.heap[g]?=_ from hcur)]
   rw[List.getElem?_take] at hj
   split at hj
   ·simpa using hj
   ·cases hj)
 obtain⟨G,hG⟩:∃ G,G=grownCap w (n+1) n 51:=⟨_,rfl⟩;obtain⟨ROW,hROW⟩:∃ ROW:Array Value,ROW=(cur.toList.take (i*5)).toArray++Builtin.zeroCells zM.cells (n+1-i)++Builtin.zeroCells zM.cells (G-(n+1)):=⟨_,rfl⟩
 have hrz:∀ ty,(Builtin.append_ #[78,3] ty #[.slice (some ⟨g,0,none⟩) i n,.int .i64 ((n:Int)+1-(i:Int))]).run Tryz.prog w=.ok (.slice (some ⟨w.heap.size,0,none⟩) (n+1) G) (w.drew.alloc (.cells ROW 51)):=fun ty=>by
  have h:=Lib.run_append_grow_zeros w 78 3 ty 51 i0 _ .i64 .i64 Tryz.underlying78 Tryz.underlying3 hi0 hz0 (some ⟨g,0,none⟩) i n (cur.toList.take (i*5)) hold (n+1-i) (by omega) (by omega) (by omega) (by omega) (by rw[hzb];omega) (by rw[hzb,hik];exact growslice_fits (by omega) (by omega))
  rw[hik] at h;rw[hkk,h,← hG,← hROW]
 have hGn:n+1<=G:=by rw[hG];exact grownCap_ge w _ _ _
 have hG63:G<=maxLen:=by rw[hG];exact grownCap_le_maxLen w (n+1) n 51 (by unfold maxLen;omega)
 have hG63':(G:Int)<=9223372036854775807:=by unfold maxLen at hG63;omega
 have hRl:ROW.size=G*5:=by
  rw[hROW]
  simp[Builtin.zeroCells,Value.cells]
  omega
 have hRt:ROW.toList.take (i*5)=cur.toList.take (i*5):=by
  rw[hROW];simp only[Array.toList_append,List.toList_toArray,List.append_assoc];rw[List.take_append_of_le_length (by simp;omega),List.take_of_length_le (by simp;omega)]
 have hW1:(w.alloc (.cells ROW 51)).drew.heap[w.heap.size]?=some (.cells ROW 51 (0,0)):=heap_alloc_new w _;have hBw:Below w.heap.size w (w.alloc (.cells ROW 51)).drew:=(xai _ _).drew
 obtain⟨w2,hcpA,ha1,ha2,ha3⟩:=xe5 (P:=Tryz.prog) (w.alloc (.cells ROW 51)).drew 78 78 3 51 5 w.heap.size (i*5) (n+1-i) 1 (G-i) ⟨vb,0,none⟩ 1 ROW 51 vs Tryz.underlying78 xoD hW1 (by omega) (by omega)
  (fun j v hj=>by rw[Addr.add_lit,Nat.zero_add];exact qzA hBw (by rw[qzB hvs];simpa using hj)) (by omega) h2
 have hB2:=ha3 _ _ hBw (qzC _)
 obtain⟨w3,hcpB,hb1,hb2,hb3⟩:=xe5 (P:=Tryz.prog) w2.drew 78 78 3 51 5 w.heap.size ((i+1)*5) (n+1-(i+1)) (n-i) (G-(i+1)) ⟨g,i*5,none⟩ (n-i) (ROW.toList.take (i*5)++vs++ROW.toList.drop (i*5+vs.length)).toArray 51 (cur.toList.drop (i*5)) Tryz.underlying78 xoD ha1 (by simp;omega) (by omega)
  (fun j v hj=>by
   rw[Addr.add_lit];refine qzA hB2.drew ?_;rw[qzB hcur];rw[List.getElem?_drop] at hj
   simpa using hj) (by simp;omega) (fun v hv=>h1 v (List.mem_of_mem_drop hv))
 have hB3:=hb3 _ _ hB2.drew (qzC _);have HH:Hid (w3.heap[w.heap.size]?=some (.cells ((ROW.toList.take (i*5)++vs++ROW.toList.drop (i*5+vs.length)).toArray.toList.take ((i+1)*5)++cur.toList.drop (i*5)++(ROW.toList.take (i*5)++vs++ROW.toList.drop (i*5+vs.length)).toArray.toList.drop ((i+1)*5+(cur.toList.drop (i*5)).length)).toArray 51 (0,0))):=hb1
 have HT:Hid (((ROW.toList.take (i*5)++vs++ROW.toList.drop (i*5+vs.length)).toArray.toList.take ((i+1)*5)++cur.toList.drop (i*5)++(ROW.toList.take (i*5)++vs++ROW.toList.drop (i*5+vs.length)).toArray.toList.drop ((i+1)*5+(cur.toList.drop (i*5)).length)).take ((n+1)*5)=cur.toList.take (i*5)++vs++cur.toList.drop (i*5)):=by
  show _=_
  have e1:(ROW.toList.take (i*5)++vs++ROW.toList.drop (i*5+vs.length)).toArray.toList.take ((i+1)*5)=cur.toList.take (i*5)++vs:=by
   simp only[List.toList_toArray];rw[hRt,List.take_append_of_le_length (by simp;omega),List.take_of_length_le (by simp;omega)]
  rw[e1,List.take_append_of_le_length (by simp;omega),List.take_of_length_le (by simp;omega)]
 exact xkB g n i vb G ROW w w2 w3 hrz hcpA hcpB hi hn hGn hG63' ⟨_,_,_,rfl,hGn,hG63,qzC _,HH.out,HT.out,hB3⟩
theorem xe9 {ops:Array Oper}{rest:List Oper}{o:Oper}{a:Act}{w:World}{Q:Exit->Act->World->Prop}(hgd:o.guard=none)(s x:Operand)
  (hop:o.op=Op.call { callee:=Callee.builtin Builtin.append,args:=#[s,x],argTypes:=#[78,78] }) (g n:Nat) (hs:a.eval s=.slice (some ⟨g,0,none⟩) n n) (Bb:Nat) (hx:a.eval x=.slice (some ⟨Bb,0,none⟩) 1 1)
  (cur:Array Value) (hcur:w.heap[g]?=some (.cells cur 51 (0,0))) (hlen:cur.size=n*5) (xs:List Value) (hX:w.heap[Bb]?=some (.cells xs.toArray 51 (0,0))) (hxl:xs.length=5) (h1:∀ u∈xs,u.oneCell'=true) (hn:n<1000)
  (hK:∀ g' cap cur' w',n+1<=cap->cap<=maxLen->w'.heap[g']?=some (.cells cur' 51 (0,0))->cur'.toList.take ((n+1)*5)=cur.toList++xs->w.heap.size<=g'->Below w.heap.size w w'->wpList Tryz.prog ops Q rest (a.put o.dst (.slice (some ⟨g',0,none⟩) (n+1) cap)) w') :
  wpList Tryz.prog ops Q (o :: rest) a w:=by
 obtain⟨i0,hi,hz0,hz1,hz2⟩:=xbu xnI;refine wpList_plain hgd fun K hKK=>?_
 obtain⟨v',w',hrun,r1,r2⟩:=run_append_arg_grows (P:=Tryz.prog) w 78 o.type 51 i0 _ 5 64 Tryz.underlying78 hi hz0 hz1 hz2 rfl (by decide) ⟨g,0,none⟩ n n cur.toList (by simpa using hlen) (fun j u hu=>by rw[Addr.add_lit,Nat.zero_add,qzB hcur];simpa using hu) ⟨Bb,0,none⟩ 1 1 xs (by simpa using hxl) (fun j u hu=>by rw[Addr.add_lit,Nat.zero_add,qzB hX];simpa using hu) (by omega) (by unfold maxLen;omega) (by omega)
 obtain⟨-,h | ⟨g',cap,cur',rfl,hb,hh,hc1,hc2,hc3,hc4⟩⟩:=r1
 ·omega
 unfold Oper.wp
 simp[execOp,hop,resolve,invoke,builtin,hs,hx,hrun,Result.andThen]
 exact hKK _ _ (hK g' cap cur' w' hc1 hc2 hh hc4 hb ((Below.refl _ _).grown r2 (qzC _) (fun k hk=>by cases hk)))
theorem xmi (g n vb:Nat)(cur:Array Value)(vs:List Value)(w:World)(hcur:w.heap[g]?=some (.cells cur 51 (0,0)))(hlen:cur.size=n*5)(hvs:w.heap[vb]?=some (.cells vs.toArray 51 (0,0)))(hvl:vs.length=5)(h2:∀ u∈vs,u.oneCell'=true)(hn:n<1000) :
  Calls Tryz.prog 104 #[.slice (some ⟨g,0,none⟩) n n,.int .i64 n,.slice (some ⟨vb,0,none⟩) 1 1] w fun e w'=>∃ g' cap cur',e=.returned (.slice (some ⟨g',0,none⟩) (n+1) cap)/\n+1<=cap/\cap<=maxLen/\w.heap.size<=g'/\w'.heap[g']?=some (.cells cur' 51 (0,0))/\cur'.toList.take ((n+1)*5)=cur.toList.take (n*5)++vs++cur.toList.drop (n*5)/\Below w.heap.size w w':=by
 have h0:(0:Int)<=(n:Int):=by omega
 have hnn:(n:Int)<=1000:=by omega
 go_enter Tryz.func104,Tryz.ntmps104
 go_wp2_with (at_builtin;refine xe9 rfl (.tmp 23) (.tmp 24) rfl g n rfl _ rfl cur hcur hlen vs hvs hvl h2 hn ?_;intro g' cap cur' w' n1 n2 hh hcl hg hb)
 go_ret
 refine⟨g',cap,cur',rfl,n1,n2,hg,hh,?_,hb⟩;rw[hcl,List.take_of_length_le (by simp;omega),List.drop_eq_nil_of_le (by simp;omega),List.append_nil]
theorem xkm (g n i vb:Nat)(cur:Array Value)(vs:List Value)(w:World)(hcur:w.heap[g]?=some (.cells cur 51 (0,0)))(hlen:cur.size=n*5)(hvs:w.heap[vb]?=some (.cells vs.toArray 51 (0,0)))(hvl:vs.length=5)(h1:∀ u∈cur.toList,u.oneCell'=true)(h2:∀ u∈vs,u.oneCell'=true)(hn:n<1000)(hi:i<=n) :
  Calls Tryz.prog 104 #[.slice (some ⟨g,0,none⟩) n n,.int .i64 i,.slice (some ⟨vb,0,none⟩) 1 1] w fun e w'=>∃ g' cap cur',e=.returned (.slice (some ⟨g',0,none⟩) (n+1) cap)/\n+1<=cap/\cap<=maxLen/\w.heap.size<=g'/\w'.heap[g']?=some (.cells cur' 51 (0,0))/\cur'.toList.take ((n+1)*5)=cur.toList.take (i*5)++vs++cur.toList.drop (i*5)/\Below w.heap.size w w':=by
 by_cases h:i=n
 ·subst h
  exact xmi g i vb cur vs w hcur hlen hvs hvl h2 hn
 ·exact xms g n i vb cur vs w hcur hlen hvs hvl h1 h2 hn (by omega)
theorem xi9 {P:Nat->Prop}(X:QW)(c:Int)(m:QM)(cv hv mv:Value)(w:World)(hh:xag P w cv X.cz)(hH:xav P w hv X.heap)(hM:xaG P w mv m.code)(hno:xc3 X.cz.length c=false):Calls Tryz.prog 80 #[WV cv hv X.ez,.int .i64 c,MV m mv] w fun e w'=>e=.returned (.tuple #[WV (.slice none 0 0) (.slice none 0 0) 0,.int .i64 6])/\Below w.heap.size w w':=by
 obtain⟨ad,cap,rfl⟩:=hh.get;obtain⟨ah,ch,rfl⟩:=hH.get;obtain⟨am,cm,rfl⟩:=hM.get;go_enter Tryz.func80,Tryz.ntmps80;go_wp2_with fail;refine (xdD _ _ _ _ _ _ _ _ _).mono ?_;rintro e w1 ⟨rfl,hb⟩;rw[hno];obtain⟨hc,hf⟩:=xfQ hb;have hz:w.heap.size+1+1<w1.heap.size:=by have:=hb.size;simp at this;omega
 go_wp2;refine bodyPost_ret (v:=.tuple #[WV (.slice none 0 0) (.slice none 0 0) 0,.int .i64 6]) (by simp[results,Tryz.results80,go_sem,hc,hz]) rfl ⟨rfl,?_⟩
 exact (((xaf (xeQ _ _ _ _) hb).setCell (by simp;omega) _).setCell (by simp;omega) _).setCell (by simp;omega) _
theorem xkf {P:Nat->Prop}(X:QW)(c:Nat)(x:QC)(m:QM)(cv hv mv:Value)(w:World)(hh:xag P w cv X.cz)(hH:xav P w hv X.heap)(hM:xaG P w mv m.code)(hx:X.cz[c]?=some x)(hno:xcR x.mz m.name<0)(h8:8<=x.mz.length):Calls Tryz.prog 80 #[WV cv hv X.ez,.int .i64 c,MV m mv] w fun e w'=>e=.returned (.tuple #[WV (.slice none 0 0) (.slice none 0 0) 0,.int .i64 5])/\Below w.heap.size w w':=by
 obtain⟨ad,cap,rfl,hl,hcap,hby,hrow⟩:=id hh;obtain⟨ah,ch,rfl⟩:=hH.get;obtain⟨am,cm,rfl⟩:=hM.get;have hk:=xad hx;have hhas:xc3 X.cz.length (c:Int)=true:=by simp[xc3];omega
 have hk0:(0:Int)<=(c:Int):=by omega
 have hk1:(c:Int)<(X.cz.length:Int):=by omega
 obtain⟨b,o,rfl,-,-,-,-,-,sv,hv3,hms⟩:=hrow c x hx;obtain⟨ad2,cap2,rfl,hl2,hcap2,hby2,-⟩:=id hms;have h8':(8:Int)<=(x.mz.length:Int):=by omega
 clear hrow;go_enter Tryz.func80,Tryz.ntmps80;go_wp2_with fail;refine (xdD _ _ _ _ _ _ _ _ _).mono ?_;rintro e w1 ⟨rfl,hb⟩;rw[hhas];have hB:=xaf (xeQ _ _ _ _) hb;obtain⟨hc,hf⟩:=xfQ hb;have hz:w.heap.size+1+1<w1.heap.size:=by have:=hb.size;simp at this;omega
 have v3:=qzA hB hv3;go_wp2_with fail;refine (xc6 x.mz _ m.name _ (hms.later xbj hB)).mono ?_;rintro e w2 ⟨rfl,hb2⟩;obtain⟨hc',hf'⟩:=xfQ hb2;have hz2:=hb2.size;have r0:∀ o,w2.cell? ⟨w.heap.size+1+1,o,none⟩=w1.cell? ⟨w.heap.size+1+1,o,none⟩:=fun o=>hc' _ _ (by omega)
 have rf:∀ o,w2.frozen? ⟨w.heap.size+1+1,o,none⟩=w1.frozen? ⟨w.heap.size+1+1,o,none⟩:=fun o=>hf' _ _ (by omega)
 clear hc' hf';go_wp2;refine bodyPost_ret (v:=.tuple #[WV (.slice none 0 0) (.slice none 0 0) 0,.int .i64 5]) (by simp[results,Tryz.results80,go_sem,hc,hz,r0]) rfl ⟨rfl,?_⟩
 exact (((xaf hB hb2).setCell (by simp;omega) _).setCell (by simp;omega) _).setCell (by simp;omega) _
end Go.Proofs.YtbafokihegegiaaGreatDoor
