import Derived.Test.YtbafokihegegiaaGreatDoorU8
import Derived.Lib.AppendZerosOnto
import Derived.Shelf.Spec.SlicesInsert
namespace Go.Proofs.YtbafokihegegiaaGreatDoor
open ChangeShapes WideShapes ChangeAt RowKit
set_option linter.unusedSimpArgs false
set_option linter.unusedVariables false
set_option maxHeartbeats 8000000
theorem xe5 {P:Program}(w:qW)(dT sT ty elem:TypeId)(sz g d c len h:Nat)(a:Addr)(e:Nat)(cur:Array Value)(t:TypeId)(cs:List Value)
  (F:P.underlying dT=some (.slice elem)) (r:(P.info? elem).map (·.size)=some sz) (s:w.heap[g]?=some (.cells cur t (0,0))) (D:cs.length=len*sz) (l:len<=c)
  (f:∀j v,cs[j]?=some v->w.cell? (a.add j)=some v) (k:d+cs.length<=cur.size) (u:∀v∈cs,v.oneCell'=true) :
  ∃w',(Builtin.copy_ #[dT,sT] ty #[qS (some (O g d)) c h,qS (some a) len e]).run P w=.ok (goInt len) w'/\w'.heap[g]?=some (.cells (cur.toList.take d++cs++cur.toList.drop (d+cs.length)).toArray t (0,0))/\(∀b,b≠g->w'.heap[b]?=w.heap[b]?)/\∀B w0,Below B w0 w->B<=g->Below B w0 w':=by
 cases o:P.info? elem with
 | none=>simp[o] at r
 | some i=>
  have C:i.size=sz:=by simpa [o] using r
  have m:=run_storeCells_at P g d t cs 0 cur w s (by simpa using k) u;have y:Nat.min c len=len:=by simp only[Nat.min_def];split<;>omega
  have n:(Builtin.firstCells sz len (qS (some a) len e)).run P w=.ok cs.toArray w:=run_firstCells_some w sz len a len e cs D f;refine⟨w.setRow g (cur.toList.take d++cs++cur.toList.drop (d+cs.length)).toArray,?_,setRow_heap w g cur _ t _ s,λb q=>setRow_other w g b _ q,λB w0 q z=>below_setRow q z _⟩;have p:Nat.min len c=len:=by simp only[Nat.min_def];split<;>omega
  simp only[Nat.add_zero,List.append_assoc] at m;simp[Builtin.copy_,run_underlying F,Builtin.lenOf,sizeOf,typeInfo,o,C,y,p,n,m]
theorem xoD:(Tryz.prog.info? 51).map (·.size)=some 5:=by kernel_rfl
set_option maxRecDepth 4000 in
theorem xkB {R:Ending->World->Prop}(g n i vb G:Nat)(c:Array Value)(w w2 w3:qW)
  (b:∀ty,(Builtin.append_ #[78,3] ty #[qG g i n,J ((n:Int)+1-(i:Int))]).run Tryz.prog w=.ok (qG w.heap.size (n+1) G) (w.drew.alloc (.cells c 51)))
  (a:(Builtin.copy_ #[78,78] 3 #[qS (some (O w.heap.size (i*5))) (n+1-i) (G-i),qG vb 1 1]).run Tryz.prog (w.alloc (.cells c 51)).drew=.ok (goInt ((1:Nat):Int)) w2)
  (d:(Builtin.copy_ #[78,78] 3 #[qS (some (O w.heap.size ((i+1)*5))) (n+1-(i+1)) (G-(i+1)),qS (some (O g (i*5))) (n-i) (n-i)]).run Tryz.prog w2.drew=.ok (goInt ((n-i:Nat):Int)) w3)
  (z:i<n) (B:n<1000) (f:n+1<=G) (e:(G:Int)<=9223372036854775807) (u:R (.returned (qG w.heap.size (n+1) G)) w3) :
  Calls Tryz.prog 104 #[qG g n n,J i,qG vb 1 1] w R:=by
 have v:¬ ((i:Int)=(n:Int)):=by omega
 have j:(0:Int)<=(i:Int):=by omega
 have q:(i:Int)<=(n:Int):=by omega
 have k:i<=n:=by omega
 have m:(n:Int)<=1000:=by omega
 have l:¬ (G=i):=by omega
 have h:¬ (G=i+1):=by omega
 have p:¬ (n=i):=by omega
 have o:(n:Int)<(n:Int)+1:=by omega
 go_enter Tryz.func104,Tryz.ntmps104
 go_wp2_with (first
  | (at_builtin;refine Lib.wpList_append_run _ rfl _ _ _ _ rfl _ _ rfl rfl _ _ (b _) ?_)
  | (at_builtin;refine wpList_copy_runI _ rfl _ _ 78 78 rfl _ _ rfl rfl a ?_))
 have r:IntKind.i64.wrap ((i:Int)+1)=(i:Int)+1:=by rw[IntKind.wrap_i64];omega
 have s:(0:Int)<=(i:Int)+1:=by omega
 have y:(i:Int)+1<=(n:Int)+1:=by omega
 have t:((i:Int)+1).toNat=i+1:=by omega
 clear b a;have mixed:Tryz.prog.follows Departure.mixedOrders=true:=by kernel_rfl
 go_region_law_o (refine step_copy_runI rfl _ _ 78 78 rfl (qS (some (O w.heap.size ((i+1)*5))) (n+1-(i+1)) (G-(i+1))) (qS (some (O g (i*5))) (n-i) (n-i)) (by simp[Act.eval,Act.put]) (by simp[Act.eval,Act.put]) d ?_)
 go_wp2;exact u
theorem xms (g n i vb:Nat)(cur:Array Value)(vs:List Value)(w:qW)(c:w.heap[g]?=some (.cells cur 51 (0,0)))(y:cur.size=n*5)(f:w.heap[vb]?=some (.cells vs.toArray 51 (0,0)))(C:vs.length=5)(h1:∀u∈cur.toList,u.oneCell'=true)(h2:∀u∈vs,u.oneCell'=true)(Z:n<1000)(hi:i<n) :
  Calls Tryz.prog 104 #[qG g n n,J i,qG vb 1 1] w λe w'=>∃g' cap cur',e=.returned (qG g' (n+1) cap)/\n+1<=cap/\cap<=maxLen/\w.heap.size<=g'/\w'.heap[g']?=some (.cells cur' 51 (0,0))/\cur'.toList.take ((n+1)*5)=cur.toList.take (i*5)++vs++cur.toList.drop (i*5)/\qY w w':=by
 obtain⟨i0,o,t,p,d⟩:=Gb xnI;have a0:=By c;have X:=By f;have N:i+(n+1-i)=n+1:=by omega
 have T:(n:Int)+1-(i:Int)=((n+1-i:Nat):Int):=by omega
 have L:(Builtin.firstCells i0.size i (qG g i n)).run Tryz.prog w.drew=.ok (cur.toList.take (i*5)).toArray w.drew:=by
  rw[p]
  exact run_firstCells_some w.drew 5 i (O g 0) i n (cur.toList.take (i*5)) (by simp;omega) (λj v D=>by
   rw[Addr.add_lit,Nat.zero_add,Bn (show w.drew.heap[g]?=_ from c)];rw[List.getElem?_take] at D;split at D
   ·simpa using D
   ·cases D)
 obtain⟨G,S⟩:∃G,G=grownCap w (n+1) n 51:=⟨_,rfl⟩;obtain⟨a,b⟩:∃a:Array Value,a=(cur.toList.take (i*5)).toArray++Builtin.zeroCells zM.cells (n+1-i)++Builtin.zeroCells zM.cells (G-(n+1)):=⟨_,rfl⟩
 have U:∀ty,(Builtin.append_ #[78,3] ty #[qG g i n,J ((n:Int)+1-(i:Int))]).run Tryz.prog w=.ok (qG w.heap.size (n+1) G) (w.drew.alloc (.cells a 51)):=λty=>by
  have h:=Lib.run_append_grow_zeros w 78 3 ty 51 i0 _ .i64 .i64 Tryz.underlying78 Tryz.underlying3 o t (some (O g 0)) i n (cur.toList.take (i*5)) L (n+1-i) Zo Zo Zo Zo (by rw[d];omega) (by rw[d,N];exact growslice_fits Zo Zo);rw[N] at h;rw[T,h,← S,← b]
 have K:n+1<=G:=by rw[S];exact grownCap_ge w _ _ _
 have F:G<=maxLen:=by rw[S];exact grownCap_le_maxLen w (n+1) n 51 (by unfold maxLen;omega)
 have H:(G:Int)<=9223372036854775807:=by unfold maxLen at F;omega
 have a1:a.size=G*5:=by
  rw[b];simp[Builtin.zeroCells,Value.cells];omega
 have W:a.toList.take (i*5)=cur.toList.take (i*5):=by
  rw[b];simp only[Array.toList_append,List.toList_toArray,List.append_assoc];rw[List.take_append_of_le_length (by simp;omega),List.take_of_length_le (by simp;omega)]
 have R:(w.alloc (.cells a 51)).drew.heap[w.heap.size]?=some (.cells a 51 (0,0)):=BH w _;have Q:qY w (w.alloc (.cells a 51)).drew:=(Bg _ _).drew
 obtain⟨w2,k,q,z,m⟩:=xe5 (P:=Tryz.prog) (w.alloc (.cells a 51)).drew 78 78 3 51 5 w.heap.size (i*5) (n+1-i) 1 (G-i) (O vb 0) 1 a 51 vs Tryz.underlying78 xoD R Zo Zo
  (λj v D=>by rw[Addr.add_lit,Nat.zero_add];exact Bf Q (by rw[Bn f];simpa using D)) Zo h2
 have M:=m _ _ Q (Bq _)
 obtain⟨w3,l,s,B,r⟩:=xe5 (P:=Tryz.prog) w2.drew 78 78 3 51 5 w.heap.size ((i+1)*5) (n+1-(i+1)) (n-i) (G-(i+1)) (O g (i*5)) (n-i) (a.toList.take (i*5)++vs++a.toList.drop (i*5+vs.length)).toArray 51 (cur.toList.drop (i*5)) Tryz.underlying78 xoD q (by simp;omega) Zo
  (λj v D=>by
   rw[Addr.add_lit];refine Bf M.drew ?_;rw[Bn c];rw[List.getElem?_drop] at D;simpa using D) (by simp;omega) (λv hv=>h1 v (List.mem_of_mem_drop hv))
 have V:=r _ _ M.drew (Bq _);have HH:Hid (w3.heap[w.heap.size]?=some (.cells ((a.toList.take (i*5)++vs++a.toList.drop (i*5+vs.length)).toArray.toList.take ((i+1)*5)++cur.toList.drop (i*5)++(a.toList.take (i*5)++vs++a.toList.drop (i*5+vs.length)).toArray.toList.drop ((i+1)*5+(cur.toList.drop (i*5)).length)).toArray 51 (0,0))):=s
 have Y:Hid (((a.toList.take (i*5)++vs++a.toList.drop (i*5+vs.length)).toArray.toList.take ((i+1)*5)++cur.toList.drop (i*5)++(a.toList.take (i*5)++vs++a.toList.drop (i*5+vs.length)).toArray.toList.drop ((i+1)*5+(cur.toList.drop (i*5)).length)).take ((n+1)*5)=cur.toList.take (i*5)++vs++cur.toList.drop (i*5)):=by
  show _=_
  have e1:(a.toList.take (i*5)++vs++a.toList.drop (i*5+vs.length)).toArray.toList.take ((i+1)*5)=cur.toList.take (i*5)++vs:=by
   simp only[List.toList_toArray];rw[W,List.take_append_of_le_length (by simp;omega),List.take_of_length_le (by simp;omega)]
  rw[e1,List.take_append_of_le_length (by simp;omega),List.take_of_length_le (by simp;omega)]
 exact xkB g n i vb G a w w2 w3 U k l hi Z K H ⟨_,_,_,rfl,K,F,Bq _,HH.out,Y.out,V⟩
theorem xe9 {ops:Array Oper}{rest:List Oper}{o:Oper}{a:Act}{w:qW}{Q:Exit->Act->World->Prop}(i:o.guard=none)(s x:Operand)
  (q:o.op=Op.call { callee:=Callee.builtin Builtin.append,args:=#[s,x],argTypes:=#[78,78] }) (g n:Nat) (C:a.eval s=qG g n n) (Bb:Nat) (M:a.eval x=qG Bb 1 1)
  (cur:Array Value) (c:w.heap[g]?=some (.cells cur 51 (0,0))) (e:cur.size=n*5) (xs:List Value) (G:w.heap[Bb]?=some (.cells xs.toArray 51 (0,0))) (m:xs.length=5) (R:∀u∈xs,u.oneCell'=true) (S:n<1000)
  (D:∀g' cap b w',n+1<=cap->cap<=maxLen->w'.heap[g']?=some (.cells b 51 (0,0))->b.toList.take ((n+1)*5)=cur.toList++xs->w.heap.size<=g'->qY w w'->wpList Tryz.prog ops Q rest (a.put o.dst (qG g' (n+1) cap)) w') :
  wpList Tryz.prog ops Q (o :: rest) a w:=by
 obtain⟨i0,H,v,p,f⟩:=Gb xnI;refine wpList_plain i λK z=>?_;obtain⟨v',w',d,r1,r2⟩:=run_append_arg_grows (P:=Tryz.prog) w 78 o.type 51 i0 _ 5 64 Tryz.underlying78 H v p f rfl (by decide) (O g 0) n n cur.toList (by simpa using e) (λj u B=>by rw[Addr.add_lit,Nat.zero_add,Bn c];simpa using B) (O Bb 0) 1 1 xs (by simpa using m) (λj u B=>by rw[Addr.add_lit,Nat.zero_add,Bn G];simpa using B) (by omega) (by unfold maxLen;omega) (by omega);obtain⟨-,h | ⟨g',cap,b,rfl,L,N,r,l,y,t⟩⟩:=r1
 ·omega
 unfold Oper.wp;simp[execOp,q,resolve,invoke,builtin,C,M,d,Result.andThen];exact z _ _ (D g' cap b w' r l N t L ((Br _ _).grown r2 (Bq _) (λk F=>by cases F)))
theorem xmi (g n vb:Nat)(cur:Array Value)(vs:List Value)(w:qW)(b:w.heap[g]?=some (.cells cur 51 (0,0)))(c:cur.size=n*5)(d:w.heap[vb]?=some (.cells vs.toArray 51 (0,0)))(h:vs.length=5)(j:∀u∈vs,u.oneCell'=true)(k:n<1000) :
  Calls Tryz.prog 104 #[qG g n n,J n,qG vb 1 1] w λe w'=>∃g' cap a,e=.returned (qG g' (n+1) cap)/\n+1<=cap/\cap<=maxLen/\w.heap.size<=g'/\w'.heap[g']?=some (.cells a 51 (0,0))/\a.toList.take ((n+1)*5)=cur.toList.take (n*5)++vs++cur.toList.drop (n*5)/\qY w w':=by
 have p:(0:Int)<=(n:Int):=by omega
 have i:(n:Int)<=1000:=by omega
 go_enter Tryz.func104,Tryz.ntmps104;go_wp2_with (at_builtin;refine xe9 rfl (.tmp 23) (.tmp 24) rfl g n rfl _ rfl cur b c vs d h j k ?_;intro g' cap a w' n1 n2 o f l m);go_ret;refine⟨g',cap,a,rfl,n1,n2,l,o,?_,m⟩;rw[f,List.take_of_length_le (by simp;omega),List.drop_eq_nil_of_le (by simp;omega),List.append_nil]
theorem xkm (g n i vb:Nat)(cur:Array Value)(vs:List Value)(w:qW)(a:w.heap[g]?=some (.cells cur 51 (0,0)))(b:cur.size=n*5)(d:w.heap[vb]?=some (.cells vs.toArray 51 (0,0)))(c:vs.length=5)(k:∀u∈cur.toList,u.oneCell'=true)(f:∀u∈vs,u.oneCell'=true)(j:n<1000)(l:i<=n) :
  Calls Tryz.prog 104 #[qG g n n,J i,qG vb 1 1] w λe w'=>∃g' cap cur',e=.returned (qG g' (n+1) cap)/\n+1<=cap/\cap<=maxLen/\w.heap.size<=g'/\w'.heap[g']?=some (.cells cur' 51 (0,0))/\cur'.toList.take ((n+1)*5)=cur.toList.take (i*5)++vs++cur.toList.drop (i*5)/\qY w w':=by
 by_cases h:i=n
 ·subst h;exact xmi g i vb cur vs w a b d c f j
 exact xms g n i vb cur vs w a b d c k f j (by omega)
theorem xi9 {P:Nat->Prop}(X:QW)(c:Int)(m:QM)(cv hv mv:Value)(w:qW)(f:BK P w cv X.cz)(h:BP P w hv X.heap)(i:Cm P w mv m.code)(a:Dg X.cz.length c=false):Calls Tryz.prog 80 #[WV cv hv X.ez,J c,MV m mv] w λe w'=>e=.returned (.tuple #[WV (qN) (qN) 0,J 6])/\qY w w':=by
 obtain⟨ad,cap,rfl⟩:=f.get;obtain⟨ah,ch,rfl⟩:=h.get;obtain⟨am,cm,rfl⟩:=i.get;go_enter Tryz.func80,Tryz.ntmps80;go_wp2_with fail;refine (Lw _ _ _ _ _ _ _ _ _).mono ?_;rintro e w1 ⟨rfl,b⟩;rw[a];obtain⟨g,j⟩:=Hq b;have d:w.heap.size+1+1<w1.heap.size:=by have:=b.size;simp at this;omega
 go_wp2;refine Bt (v:=.tuple #[WV (qN) (qN) 0,J 6]) (by simp[results,Tryz.results80,go_sem,g,d]) rfl ⟨rfl,?_⟩;exact (((Bh (DW _ _ _ _) b).setCell (by simp;omega) _).setCell (by simp;omega) _).setCell (by simp;omega) _
theorem xkf {P:Nat->Prop}(X:QW)(c:Nat)(x:QC)(m:QM)(cv hv mv:Value)(w:qW)(M:BK P w cv X.cz)(L:BP P w hv X.heap)(H:Cm P w mv m.code)(z:X.cz[c]?=some x)(s:CZ x.mz m.name<0)(S:8<=x.mz.length):Calls Tryz.prog 80 #[WV cv hv X.ez,J c,MV m mv] w λe w'=>e=.returned (.tuple #[WV (qN) (qN) 0,J 5])/\qY w w':=by
 obtain⟨ad,cap,rfl,N,n,r,a⟩:=id M;obtain⟨ah,ch,rfl⟩:=L.get;obtain⟨am,cm,rfl⟩:=H.get;have R:=Bz z;have t:Dg X.cz.length (c:Int)=true:=by simp[Dg];omega
 have G:(0:Int)<=(c:Int):=by omega
 have D:(c:Int)<(X.cz.length:Int):=by omega
 obtain⟨b,o,rfl,-,-,-,-,-,sv,i,f⟩:=a c x z;obtain⟨q,k,rfl,p,j,l,-⟩:=id f;have F:(8:Int)<=(x.mz.length:Int):=by omega
 clear a;go_enter Tryz.func80,Tryz.ntmps80;go_wp2_with fail;refine (Lw _ _ _ _ _ _ _ _ _).mono ?_;rintro e w1 ⟨rfl,y⟩;rw[t];have u:=Bh (DW _ _ _ _) y;obtain⟨K,Q⟩:=Hq y;have C:w.heap.size+1+1<w1.heap.size:=by have:=y.size;simp at this;omega
 have v3:=Bf u i;go_wp2_with fail;refine (xc6 x.mz _ m.name _ (f.later xbj u)).mono ?_;rintro e w2 ⟨rfl,d⟩;obtain⟨h,g⟩:=Hq d;have B:=d.size;have r0:∀o,w2.cell? (O (w.heap.size+1+1) o)=w1.cell? (O (w.heap.size+1+1) o):=λo=>h _ _ (by omega);have rf:∀o,w2.frozen? (O (w.heap.size+1+1) o)=w1.frozen? (O (w.heap.size+1+1) o):=λo=>g _ _ (by omega);clear h g;go_wp2;refine Bt (v:=.tuple #[WV (qN) (qN) 0,J 5]) (by simp[results,Tryz.results80,go_sem,K,C,r0]) rfl ⟨rfl,?_⟩;exact (((Bh u d).setCell (by simp;omega) _).setCell (by simp;omega) _).setCell (by simp;omega) _
end Go.Proofs.YtbafokihegegiaaGreatDoor
