import Derived.Test.YtbafokihegegiaaGreatDoorU13
namespace Go.Proofs.YtbafokihegegiaaGreatDoor
open ChangeShapes WideShapes ChangeAt RowKit
set_option linter.unusedSimpArgs false
set_option linter.unusedVariables false
set_option maxHeartbeats 8000000
set_option maxRecDepth 8000
theorem xlN {xs:List QC}{c n:Int}{mt:QM}(h:Cp xs c n=some mt):∃(kc kn:Nat) (x:QC),c=(kc:Int)/\n=(kn:Int)/\xs[kc]?=some x/\x.mz[kn]?=some mt:=by
 unfold Cp at h
 cases a:Cy xs c with
 | none=>rw[a] at h;cases h
 | some x=>
  rw[a] at h;obtain⟨k,rfl,b⟩:=Gl a;simp only[Option.bind_some] at h;split at h
  ·exact⟨k,n.toNat,x,rfl,by omega,b,h⟩
  cases h
def Pr (X:QW)(sites:List Int)(Z:qW)(bm:Nat)(m:QM)(kv:Value)(c:Int)(gk:Nat)(pv iv:Value)(wr:qW):Prop:=
 ∃(j:Nat) (a:Option Addr) (cap:Nat),j+gk=m.code.length/\iv=J (j:Int)/\pv=J ((Bv X.cz sites m j).pieces:Int)/\MtL Z bm m kv c X.ez (Bv X.cz sites m j).temps (Bv X.cz sites m j).code ((Bv X.cz sites m j).begins++List.replicate (m.code.length-j) 0) a cap wr
theorem xrA {X:QW}{sites:List Int}{Z:qW}{bm:Nat}{m:QM}{kv:Value}{c:Int}{j:Nat}{x:QI}(a:m.code[j]?=some x)(b:DK X.cz sites m.code.length (Bv X.cz sites m j).code.length (Bv X.cz sites m j).temps j x=none){a':Option Addr}{cap':Nat}{W:qW}
  (h:MtL Z bm m kv c X.ez (Bv X.cz sites m j).temps ((Bv X.cz sites m j).code++[CS x (j:Int)]) (((Bv X.cz sites m j).begins++List.replicate (m.code.length-j) 0).set j ((Bv X.cz sites m j).code.length:Int)) a' cap' W):Pr X sites Z bm m kv c (m.code.length-(j+1)) (J ((Bv X.cz sites m j).pieces:Int)) (J ((j:Int)+1)) W:=by
 have d:=Bz a;refine⟨j+1,a',cap',by omega,by go_num,?_,?_⟩
 ·rw[Kb a];unfold FJ;rw[b]
 rw[xhK (Ml (by omega)) d] at h;rw[Kb a];unfold FJ;rw[b];exact h
theorem xpx {X:QW}{sites:List Int}{Z:qW}{bm:Nat}{m:QM}{kv:Value}{c:Int}{j:Nat}{x:QI}{a:QM}(b:m.code[j]?=some x)(d:DK X.cz sites m.code.length (Bv X.cz sites m j).code.length (Bv X.cz sites m j).temps j x=some a){a':Option Addr}{cap':Nat}{W:qW}
  (h:MtL Z bm m kv c X.ez ((Bv X.cz sites m j).temps+1+a.args+a.temps) ((Bv X.cz sites m j).code++Eh a (BQ 18 (sites.getD j (-1)) a.args j) (Bv X.cz sites m j).temps (Bv X.cz sites m j).code.length) (((Bv X.cz sites m j).begins++List.replicate (m.code.length-j) 0).set j ((Bv X.cz sites m j).code.length:Int)) a' cap' W):Pr X sites Z bm m kv c (m.code.length-(j+1)) (J ((Bv X.cz sites m j).pieces+1:Int)) (J ((j:Int)+1)) W:=by
 have e:=Bz b;refine⟨j+1,a',cap',by omega,by go_num,?_,?_⟩
 ·rw[Kb b];unfold FJ;rw[d];rfl
 rw[xhK (Ml (by omega)) e] at h;rw[Kb b];unfold FJ;rw[d];exact h
structure RbX (w:qW)(cv hv:Value)(ep:Int)(w':qW):Prop where
 w0:w'.cell? (O w.heap.size 0)=some cv
 w1:w'.cell? (O w.heap.size 1)=some hv
 w2:w'.cell? (O w.heap.size 2)=some (J ep)
 z0:w'.cell? (O (w.heap.size+1) 0)=some (J 0)
 z1:w'.cell? (O (w.heap.size+1) 1)=some (qZ ⟨#[]⟩)
 z2:w'.cell? (O (w.heap.size+1) 2)=some (J 0)
 z3:w'.cell? (O (w.heap.size+1) 3)=some (J 0)
 z4:w'.cell? (O (w.heap.size+1) 4)=some (qN)
 zf:∀o,w'.frozen? (O (w.heap.size+1) o)=false
 sz:w.heap.size+2<=w'.heap.size
theorem RbX.later {w:qW}{cv hv:Value}{ep:Int}{w' w'':qW}(h:RbX w cv hv ep w')(a:qY w' w''):RbX w cv hv ep w'':=
 ⟨Bf a h.w0,Bf a h.w1,Bf a h.w2,Bf a h.z0,Bf a h.z1,Bf a h.z2,Bf a h.z3,Bf a h.z4,λo=>(a.frozen (p:=(O (w.heap.size+1) o)) (by have:=h.sz;simp only;omega)).trans (h.zf o),BX h.sz a.size⟩
theorem xow (w:qW)(cv hv:Value)(ep:Int):RbX w cv hv ep ((w.alloc (qC #[cv,hv,J ep] 26)).alloc (qI)):=by
 have e1:(w.alloc (qC #[cv,hv,J ep] 26)).heap.size=w.heap.size+1:=by simp
 exact⟨Bf (Bg _ _) (Bp w #[cv,hv,J ep] 26 _ rfl 0),Bf (Bg _ _) (Bp w #[cv,hv,J ep] 26 _ rfl 1),Bf (Bg _ _) (Bp w #[cv,hv,J ep] 26 _ rfl 2),Bp _ _ _ _ e1 0,Bp _ _ _ _ e1 1,Bp _ _ _ _ e1 2,Bp _ _ _ _ e1 3,Bp _ _ _ _ e1 4,KC (cur:=#[J 0,qZ ⟨#[]⟩,J 0,J 0,qN]) (t:=187) (by rw[← e1];exact BH _ _),by simp⟩
theorem xqG (w1:qW)(m:QM)(kv:Value)(c ep tm:Int)(n:Nat)(_:Unit):MtL (((w1.alloc (qC #[qZ m.name,J m.args,J m.temps,J m.prim,kv] 51)).alloc (qC #[J c,qZ m.name,J ep,J tm,qN] 187)).alloc (xew (List.replicate n 0))) w1.heap.size m kv c ep tm [] (List.replicate n 0) none 0 (((w1.alloc (qC #[qZ m.name,J m.args,J m.temps,J m.prim,kv] 51)).alloc (qC #[J c,qZ m.name,J ep,J tm,qN] 187)).alloc (xew (List.replicate n 0))):=by
 have e1:(w1.alloc (qC #[qZ m.name,J m.args,J m.temps,J m.prim,kv] 51)).heap.size=w1.heap.size+1:=by simp
 have e2:((w1.alloc (qC #[qZ m.name,J m.args,J m.temps,J m.prim,kv] 51)).alloc (qC #[J c,qZ m.name,J ep,J tm,qN] 187)).heap.size=w1.heap.size+2:=by simp
 refine⟨rfl,rfl,rfl,by simp,λ_ _=>rfl,Bs (BH w1 _) (BG _ _ _),Bs (by rw[← e1];exact BH _ _) (Bg _ _),by rw[← e2];exact BH _ _,⟨rfl,Or.inl ⟨rfl,rfl⟩⟩⟩
theorem xqk {w U:qW}{r:Fst × Bool}{a:Option Addr}{cap:Nat}(d:qY w U)(c:Cm (λb=>w.heap.size+2<=b/\b<U.heap.size) U (qS a r.1.code.length cap) r.1.code):Qk w r (.returned (.tuple #[FW r.1 (qS a r.1.code.length cap),.bool r.2])) (Hp U (w.heap.size+1) (J r.1.cls) (qZ r.1.name) (J r.1.ez) (J r.1.temps) (qS a r.1.code.length cap)):=by
 refine⟨a,cap,rfl,c.keep BR (Keeps.of_block λb d _=>xsN (by omega)) λb h=>⟨by omega,?_⟩,xsA d (by omega)⟩;simp only[GT];exact h.2
theorem xnS {w U:qW}(b:qY w U):Qk w (Kh,false) (.returned (.tuple #[FW Kh (qN),.bool false])) (Hp U (w.heap.size+1) (J 0) (qZ ⟨#[]⟩) (J 0) (J 0) (qN)):=xqk (r:=(Kh,false)) (a:=none) (cap:=0) b GZ
theorem xf3 {xs:List QC}{sites:List Int}{m:QM}:∀k:Nat,(Bv xs sites m k).pieces<=(Bv xs sites m k).code.length
 | 0=>Bq _
 | k+1=>by
  have ih:=xf3 (xs:=xs) (sites:=sites) (m:=m) k;unfold Bv;split
  ·exact ih
  generalize Bv xs sites m k=s at *;unfold FJ;split
  ·simp;omega
  simp[KB];omega
theorem xi2 {xs:List QC}{sites:List Int}{m:QM}:∀k:Nat,∀b∈(Bv xs sites m k).begins,0<=b/\b<((Bv xs sites m k).code.length:Int)
 | 0,b,a=>by simp[Bv] at a
 | k+1,b,a=>by
  have ih:=xi2 (xs:=xs) (sites:=sites) (m:=m) k;unfold Bv at a ⊢;split at a
  ·exact ih b a
  rename_i x h;generalize Bv xs sites m k=s at *;rw[xeN] at a
  have c:s.code.length<(FJ xs sites m.code.length s k x).code.length:=by
   unfold FJ;split
   ·simp
   simp[KB];omega
  rcases List.mem_append.1 a with h' | h'
  ·have:=ih b h';omega
  simp at h';omega
theorem xsg {P:Nat->Prop}{w:qW}{cv:Value}{xs:List QC}(l:BK P w cv xs){c n:Int}{m:QM}(k:Cp xs c n=some m):NmOk m.code:=by
 obtain⟨q,t,x,rfl,rfl,r,j⟩:=xlN k;obtain⟨ac,cc,rfl,-,-,-,a⟩:=l;obtain⟨b,o,-,-,-,-,-,-,mv,-,f⟩:=a q x r;obtain⟨am,cm,rfl,-,-,-,d⟩:=f;obtain⟨b2,o2,-,-,-,-,-,-,-,kv,-,g⟩:=d t m j;obtain⟨ak,ck,rfl,-,-,-,h⟩:=g;intro y p;obtain⟨i,s,rfl⟩:=List.mem_iff_getElem.1 p;obtain⟨b3,o3,-,-,-,-,-,-,-,e⟩:=h i m.code[i] (by simp);exact e
theorem Nq:(⟨#[]⟩:ByteArray).size<=140737488351232:=by decide
theorem xoj (l:List QI)(h:∀x∈l,x.name=⟨#[]⟩):NmOk l:=λx a=>by rw[h x a];exact Nq
theorem xqa {b:QM}(h:NmOk b.code)(g:QI)(f:g.name.size<=140737488351232)(self n:Int):NmOk (Eh b g self n):=by
 have d:∀(a:Int) (k:Nat),NmOk (Fq a k):=by
  intro a k
  induction k with
  | zero=>exact xoj _ λx c=>by simp[Fq] at c
  | succ k ih=>
   intro x c;simp only[Fq,List.mem_cons] at c;rcases c with rfl | c
   ·exact Nq
   exact ih x c
 have e:∀(a:Int) (k:Nat),NmOk (Ex a k):=by
  intro a k
  induction k with
  | zero=>exact xoj _ λx c=>by simp[Ex] at c
  | succ k ih=>
   rw[xel];refine ih.append (xoj _ λx c=>?_);simp only[Zm,Zn,or_false] at c;rcases c with rfl | rfl<;>rfl
 unfold Eh Kc;refine ((((?_:NmOk _).append (d _ _)).append ?_).append (e _ _)).append ?_
 ·intro x c;simp only[Zm,Zn,or_false] at c;rcases c with rfl | rfl
  ·exact f
  exact Nq
 ·intro x c;simp only[Zm,Zn,or_false] at c;subst c;exact Nq
 intro x c;obtain⟨y,i,rfl⟩:=List.mem_map.1 c;unfold Cc
 repeat' split
 all_goals first | exact Nq | exact h y i
theorem xlJ {P:Nat->Prop}{w:qW}{cv:Value}{xs:List QC}(g:BK P w cv xs){sites:List Int}{m:QM}(f:NmOk m.code):∀k:Nat,NmOk (Bv xs sites m k).code
 | 0=>λx e=>by simp[Bv] at e
 | k+1=>by
  have ih:=xlJ g (sites:=sites) f k;unfold Bv;split
  ·exact ih
  rename_i x e;generalize Bv xs sites m k=s at *;unfold FJ;split
  ·refine ih.append λy h=>?_;simp at h;subst h;have:=f x (List.mem_of_getElem? e);unfold CS;split<;>exact this
  ·rename_i c d;refine ih.append (xqa ?_ _ Nq _ _);unfold DK at d;split at d
   ·cases d
   rename_i lf a;split at d
   ·cases d;unfold Et at a;split at a
    ·split at a
     ·cases a
     rename_i m' b;split at a
     ·cases a;exact xsg g (xeS b)
     cases a
    cases a
   cases d
theorem xqs {begins:List Int}{plain code:List QI}(h:NmOk code):∀k,NmOk (Dx begins plain code k)
 | 0=>h
 | k+1=>by
  have ih:=xqs (begins:=begins) (plain:=plain) h k;unfold Dx;split
  ·split
   ·intro x c;obtain⟨i,a⟩:=List.mem_iff_getElem?.1 c;rw[List.getElem?_modify] at a
    cases b:(Dx begins plain code k)[i]? with
    | none=>rw[b] at a;simp at a
    | some y=>
     rw[b] at a;have:=ih y (List.mem_of_getElem? b);simp at a;split at a<;>(rw[← a];exact this)
   ·exact ih
  exact ih
theorem xpW {w:qW}{B cap:Nat}{ad:Addr}{code:List QI}(h:OwnI w B (some ad) cap code):∀j u,(DG code)[j]?=some u->w.cell? (ad.add j)=some u:=by
 obtain⟨i,d | ⟨g,o,c,cur,e,n,b,k,l,m,f⟩⟩:=h
 ·cases d.1
 cases e;intro j u a;rw[← f,List.getElem?_take] at a;split at a
 ·rw[List.getElem?_drop] at a;rw[Addr.add_lit,Bn b];simpa using a
 cases a
theorem xlc {P Q:Nat->Prop}(X:QW)(hX:BM X=0)(c k:Int)(m:QM)(hm:Cp X.cz c k=some m)(sites:List Int)(cv hv sv:Value)(w:qW)(hC:BK P w cv X.cz)(hH:BP P w hv X.heap)(hS:LH Q w sv sites) :
  Calls Tryz.prog 114 #[WV cv hv X.ez,J c,J k,sv] w λe w'=>Qk w (En X c m sites) e w':=by
 obtain⟨ac,cc,rfl,-,a8,-,F⟩:=id (xev hC);obtain⟨ah,ch,rfl,-⟩:=id hH;obtain⟨ay,cs,rfl,ax,ai,-,R⟩:=id hS;unfold maxLen at ai a8;have c5:=Qh hX hm;obtain⟨qc,tc,xc,rfl,rfl,a0,a5⟩:=xlN hm;obtain⟨b1,o1,a1,-,-,-,-,-,mv,u3,aj⟩:=F qc xc a0;obtain⟨am,cm,rfl,aw,aa,-,a4⟩:=aj;obtain⟨b2,o2,rfl,-,v0,v1,v2,v3,-,kv,v4,a3⟩:=a4 tc m a5;obtain⟨ak,ck,rfl,au,an,-,H⟩:=id a3;subst a1;simp only[Nat.add_zero] at v0;unfold maxLen at aa an;have hq:=Bz a0;have ht:=Bz a5;have dv:(qc:Int)<(X.cz.length:Int):=by omega
 have dw:(0:Int)<=(qc:Int):=by omega
 have dt:(tc:Int)<(xc.mz.length:Int):=by omega
 have dr:(0:Int)<=(tc:Int):=by omega
 have db:=xgW m.code.length (by have:=c5.len;omega);have c7:=BG w (qC #[qS (some (O b1 o1)) X.cz.length cc,qS ah X.heap.length ch,J X.ez] 26) (qI);go_enter Tryz.func114,Tryz.ntmps114;go_wp2_with fail;refine (xls X (qc:Int) (tc:Int) _ _ _ (hC.later Bw c7) (hH.later BB c7)).mono ?_;rintro e w1 ⟨rfl,T⟩;rw[show KD X.cz (qc:Int) (tc:Int)=some m from hm];dsimp only;have be:=Bh c7 T;have zz:=xow w (qS (some (O b1 o1)) X.cz.length cc) (qS ah X.heap.length ch) X.ez;replace zz:=zz.later T;have zw:=zz;replace u3:=Bf be u3;replace v0:=Bf be v0;replace v1:=Bf be v1;replace v2:=Bf be v2;replace v3:=Bf be v3;replace v4:=Bf be v4;obtain⟨k0,k1,k2,-,-,-,-,-,-,ar⟩:=id zz;have kk2:=Bf (Bg w1 (qD m ak ck)) k2;have cf:qY w1 (((w1.alloc (qD m ak ck)).alloc (qC #[J (qc:Int),qZ m.name,J X.ez,J m.temps,qN] 187)).alloc (xew (List.replicate m.code.length 0))):=DW _ _ _ _
 have ci:MtL (((w1.alloc (qD m ak ck)).alloc (qC #[J (qc:Int),qZ m.name,J X.ez,J m.temps,qN] 187)).alloc (xew (List.replicate m.code.length 0))) w1.heap.size m (qS ak m.code.length ck) (qc:Int) X.ez m.temps [] (List.replicate m.code.length 0) none 0 (((w1.alloc (qD m ak ck)).alloc (qC #[J (qc:Int),qZ m.name,J X.ez,J m.temps,qN] 187)).alloc (xew (List.replicate m.code.length 0))):=xqG w1 m (qS ak m.code.length ck) (qc:Int) X.ez m.temps m.code.length ();go_upto_region 6 with (fail);clear db k0 k1 k2 kk2 u3 v0 v1 v2 v3 v4 F a4;simp only[Nat.add_assoc,Nat.reduceAdd];generalize hZ:(((w1.alloc (qD m ak ck)).alloc (qC #[J (qc:Int),qZ m.name,J X.ez,J m.temps,qN] 187)).alloc (xew (List.replicate m.code.length 0)))=Z at *;have bc:=zz.later cf;have bg:=Bh be cf;have dq:w.heap.size+2<=w1.heap.size:=zz.sz;clear hZ cf c7 T be zz zw;generalize w1.heap.size=bm at *;have cq:=c5.len;have m4:=ci.m4;go_wp2;clear m4
 go_loopg [13,49] m.code.length (λgk pv iv wr=>Pr X sites Z bm m (qS ak m.code.length ck) (qc:Int) gk pv iv wr)
 case atStart=>exact⟨0,none,0,by omega,rfl,rfl,by simpa [Bv] using ci⟩
 case round=>
  clear ci;obtain⟨j,a,cap,hj,rfl,rfl,hL⟩:=hrel;by_cases hlt:j<m.code.length
  ·have bz:m.code[j]?=some m.code[j]:=by simp[hlt]
   obtain⟨bk,ok,af,av,u0,u1,u2,u3,u4,-⟩:=H j _ bz;subst af;generalize m.code[j]=x at *;have dy:=CH bz;obtain⟨i1,i2,i3,i4⟩:=NN hX c5 (sites:=sites) (k:=j) Zo;have c1:=CH (Ml (xs:=X.cz) (sites:=sites) (m:=m) (k:=j) Zo);have cx:=CH (λ(hw:DK X.cz sites m.code.length (Bv X.cz sites m j).code.length (Bv X.cz sites m j).temps j x=none) {a':Option Addr} {cap':Nat} {W:qW} h=>xrA (Z:=Z) (bm:=bm) (kv:=qS (some (O bk ok)) m.code.length ck) (c:=(qc:Int)) (a':=a') (cap':=cap') (W:=W) bz hw h);have da:=CH (λ(d:QM) (hw:DK X.cz sites m.code.length (Bv X.cz sites m j).code.length (Bv X.cz sites m j).temps j x=some d) {a':Option Addr} {cap':Nat} {W:qW} h=>xpx (Z:=Z) (bm:=bm) (kv:=qS (some (O bk ok)) m.code.length ck) (c:=(qc:Int)) (a':=a') (cap':=cap') (W:=W) bz hw h);have cj:Hid (∀st,Et X.cz sites j x=st->DK X.cz sites m.code.length (Bv X.cz sites m j).code.length (Bv X.cz sites m j).temps j x=match st with | none=>none | some d=>if Kz (Bv X.cz sites m j).code.length (Bv X.cz sites m j).temps d ((m.code.length:Int)-j)=true then some d else none):=λst h=>by subst h;rfl
   generalize Bv X.cz sites m j=s at *;clear bz H;simp only[Nat.add_zero] at u0;replace u0:=hL.old Zo (Bf bg u0);replace u1:=hL.old Zo (Bf bg u1);replace u2:=hL.old Zo (Bf bg u2);replace u3:=hL.old Zo (Bf bg u3);replace u4:=hL.old Zo (Bf bg u4);have de:=hL.sz;have dk:(j:Int)<(m.code.length:Int):=by omega
   have dm:(0:Int)<=(j:Int):=by omega
   have co:=Bg wr (qE x);have bu:=hL.later co;have f4:=bu.f4;have d1:(s.begins++List.replicate (m.code.length-j) 0)[j]?=some 0:=by rw[List.getElem?_append_right (by have:=c1.out;omega),c1.out,Nat.sub_self,List.getElem?_replicate,if_pos Zo]
   have gc:=bu.g d1;have gf:=bu.gf;have bf:=bu.setG j (s.code.length:Int);have xbox:(wr.alloc (qE x)).heap[wr.heap.size]?=some (qE x):=BH _ _;have xbox1:((wr.alloc (qE x)).setCell (O (bm+2) j) (J (s.code.length:Int))).heap[wr.heap.size]?=some (qE x):=by rw[BS Zo];exact xbox
   have ct:Hid (some wr.heap.size≠(qS a s.code.length cap).ownBlock):=λe=>by have:=(hL.own.lt _ e.symm).2;omega
   have cy:=CH hL.capOk;clear hL bu co xbox;go_upto_region 11 with (fail);generalize ((wr.alloc (qE x)).setCell (O (bm+2) j) (J (s.code.length:Int)))=V0 at *;generalize wr.heap.size=bx at *;clear f4 gc gf u0 u1 u2 u3 u4;have k0:=bf.old Zo bc.w0;have k1:=bf.old Zo bc.w1;have k2:=bf.old Zo bc.w2;have y0:V0.cell? (O bx 0)=some (J x.op):=by rw[Bn xbox1];rfl
   have y1:V0.cell? (O bx 1)=some (J x.a):=by rw[Bn xbox1];rfl
   have y2:V0.cell? (O bx 2)=some (J x.b):=by rw[Bn xbox1];rfl
   have y3:V0.cell? (O bx 3)=some (J x.c):=by rw[Bn xbox1];rfl
   have y4:V0.cell? (O bx 4)=some (qZ x.name):=by rw[Bn xbox1];rfl
   have bj:=bf.below bg Zo;go_wp2_with fail;refine (xmD X sites j x _ _ _ V0 (hC.later Bw bj) (hH.later BB bj) (hS.later xrH bj)).mono ?_;rintro e w3 ⟨d,al,cl,rfl,M,c4,K⟩;dsimp only;have c8:=Bg w3 (qD d al cl);have bn:=Bh K c8;have hL:=bf.later bn;have bi:=c4.later BR c8;have lbox:(w3.alloc (qD d al cl)).heap[w3.heap.size]?=some (qD d al cl):=BH _ _;have xboxV:=Bs xbox1 bn;have cw:Hid (V0.heap.size<=w3.heap.size):=K.size;have dj:bm+3<=w3.heap.size:=by have:=bf.sz;have:=K.size;omega
   have d8:=CH bf.own;clear k0 k1 k2 y0 y1 y2 y3 y4 xbox1 c4 bf bj;go_upto_region 12 with (fail);generalize (w3.alloc (qD d al cl))=V at *;generalize dg:w3.heap.size=bl at *;have bw:Hid (some bl≠(qS a s.code.length cap).ownBlock):=λe=>by have:=(d8.out.lt _ e.symm).2;have:=cw.out;omega
   have xb0:V.cell? (O bx 0)=some (J x.op):=by rw[Bn xboxV];rfl
   have xb1:V.cell? (O bx 1)=some (J x.a):=by rw[Bn xboxV];rfl
   have xb2:V.cell? (O bx 2)=some (J x.b):=by rw[Bn xboxV];rfl
   have xb3:V.cell? (O bx 3)=some (J x.c):=by rw[Bn xboxV];rfl
   have xb4:V.cell? (O bx 4)=some (qZ x.name):=by rw[Bn xboxV];rfl
   have ca:=hL.sz;obtain⟨aq,ao⟩:=cy.out
   cases b5:Et X.cz sites j x with
   | none=>
     have bh:Hid (∀y,CS x (j:Int)=y->∀a' cap' W,MtL Z bm m (qS (some (O bk ok)) m.code.length ck) (qc:Int) X.ez s.temps (s.code++[y]) ((s.begins++List.replicate (m.code.length-j) 0).set j (s.code.length:Int)) a' cap' W->Pr X sites Z bm m (qS (some (O bk ok)) m.code.length ck) (qc:Int) (m.code.length-(j+1)) (J (s.pieces:Int)) (J ((j:Int)+1)) W):=λy hy a' cap' W h=>by subst hy;exact cx.out (cj.out _ b5) h
     simp only[Option.isSome];clear b5 M;go_upto_region 13 with (fail);have b4:∀w',qY V w'->w'.cell? (O (bm+1) 4)=some (qS a s.code.length cap)/\w'.cell? (O bx 0)=some (J x.op)/\w'.cell? (O bx 1)=some (J x.a)/\w'.cell? (O bx 2)=some (J x.b)/\w'.cell? (O bx 3)=some (J x.c)/\w'.cell? (O bx 4)=some (qZ x.name):=λw' hb=>⟨(hL.later hb).f4,Bf hb xb0,Bf hb xb1,Bf hb xb2,Bf hb xb3,Bf hb xb4⟩
     have az:=b4 _ (Br _ V).drew;refine Fm (S:=λw'=>w'.cell? (O (bm+1) 4)=some (qS a s.code.length cap)/\w'.cell? (O bx 0)=some (J x.op)/\w'.cell? (O bx 1)=some (J x.a)/\w'.cell? (O bx 2)=some (J x.b)/\w'.cell? (O bx 3)=some (J x.c)/\w'.cell? (O bx 4)=some (qZ x.name)) [8] (by kernel_rfl) ?_;refine tj 0 (⟨some 81,.fieldAddr 187 (.tmp 11) 4,0,_,_,none⟩) (.pointer (some (O (bm+1) 4))) (az) ?_ ?_
     ·rintro w⟨_,_,_,_,_,_⟩;go_simp
     try simp only[Act.put,Bj,Bl,Bk]
     refine tj 1 (⟨some 82,.load 49 (.tmp 81),49,_,_,none⟩) (qS a s.code.length cap) (az) ?_ ?_
     ·rintro w⟨_,_,_,_,_,_⟩;go_simp
     try simp only[Act.put,Bj,Bl,Bk]
     refine tj 2 (⟨some 83,.load 69 (.tmp 15),69,_,_,none⟩) (IV x) (az) ?_ ?_
     ·rintro w⟨_,_,_,_,_,_⟩;go_simp
     try simp only[Act.put,Bj,Bl,Bk]
     refine tj 3 (⟨some 84,.move (.tmp 14),3,_,_,none⟩) (J (j:Int)) (az) ?_ ?_
     ·rintro w⟨_,_,_,_,_,_⟩;go_simp
     try simp only[Act.put,Bj,Bl,Bk]
     refine DS (rs:=[4]) (by kernel_rfl) (by simp) ?_;intro i hi;simp only[Zm,Zn,or_false] at hi;subst hi;refine Ck (o:=⟨some 85,.call ⟨.value (.func 151),#[.tmp 83,.tmp 84],#[69,3]⟩,69,_,_,none⟩) rfl (λK' hK=>?_);refine EX rfl 151 (.func 151) #[.tmp 83,.tmp 84] _ rfl #[] rfl #[IV x,J (j:Int)] (by simp[Act.eval,Act.put]) (cf26 _ _) ?_;refine (show Calls Tryz.prog 151 #[IV x,J (j:Int)] V.drew _ from (xgZ x (j:Int) V.drew).mono ?_);rintro e w5 ⟨rfl,f⟩;refine⟨_,rfl,?_⟩;have b3:qY V w5:=Bh (Br _ V).drew f;obtain⟨y,G⟩:∃y,CS x (j:Int)=y:=⟨_,rfl⟩;simp only[G];refine hK _ _ (λ_=>?_) ?_
     ·exact b4 _ b3
     clear hK K'
     try simp only[Act.put,Bj,Bl,Bk]
     refine DS (rs:=[5]) (by kernel_rfl) (by simp) ?_;intro i hi;simp only[Zm,Zn,or_false] at hi;subst hi;refine Ck (o:=⟨some 86,.buildSlice 49 1 #[(0,.tmp 85)],49,_,_,none⟩) rfl (λK' hK=>?_);go_simp;refine hK _ _ (λ_=>?_) ?_
     ·exact b4 _ (Bh b3 (Bg _ _))
     clear hK K'
     try simp only[Act.put,Bj,Bl,Bk]
     refine DS (rs:=[6]) (by kernel_rfl) (by simp) ?_;intro i hi;simp only[Zm,Zn,or_false] at hi;subst hi;refine Ck (o:=⟨some 87,.call ⟨.builtin .append,#[.tmp 82,.tmp 86],#[49,49]⟩,49,_,_,none⟩) rfl (λK' hK=>?_);have b6:=(hL.later b3).later (Bg w5 (qE y));obtain⟨v',w',p,r1,r2,r3,r4⟩:=xcQ (w:=w5.alloc (qE y)) 49 49 69 _ 5 48 Tryz.underlying49 Mg rfl Zo (bm+3) s.code.length (qS a s.code.length cap) (DG s.code) b6.own w5.heap.size [J y.op,J y.a,J y.b,J y.c,qZ y.name] rfl (BH w5 _) (by intro u hu;simp only[Zm,Zn,or_false] at hu;rcases hu with h | h | h | h | h<;>(subst h;rfl)) (by unfold maxLen;omega) Zo b6.sz;obtain⟨a',cap',rfl,-⟩:=r1.form;refine xcI rfl (.tmp 82) (.tmp 86) 49 rfl (qS a s.code.length cap) (qG w5.heap.size 1 1) (qS a' (s.code.length+1) cap') (by simp[Act.eval,Act.put]) (by simp[Act.eval,Act.put]) p ?_;have bo:=OwnI.more (ys:=[y]) r1 rfl rfl;have ba:=b6.setC bo r3;simp only[List.length_append,List.length_cons,List.length_nil,Nat.zero_add] at ba;have hN:=CH ba;have d4:w'.cell? (O (bm+1) 4)=some (qS a s.code.length cap):=by unfold World.cell?;rw[r3.block (bm+1) Zo];exact b6.f4
     have df:∀o,w'.frozen? (O (bm+1) o)=false:=KC (by rw[r3.block (bm+1) Zo];exact b6.fb)
     have b9:w'.cell? (O (bm+1) 4)=some (qS a s.code.length cap)/\w'.cell? (O bx 0)=some (J x.op)/\w'.cell? (O bx 1)=some (J x.a)/\w'.cell? (O bx 2)=some (J x.b)/\w'.cell? (O bx 3)=some (J x.c)/\w'.cell? (O bx 4)=some (qZ x.name):=by
      obtain⟨e0,e1,e2,e3,e4,e5⟩:=b4 _ (Bh b3 (Bg w5 (qE y)))
      have b0:∀o v,(w5.alloc (qE y)).cell? (O bx o)=some v->w'.cell? (O bx o)=some v:=λo v h=>by
       unfold World.cell? at h ⊢;rw[r4 bx (World.block_lt_of_cell? _ (O bx o) h) ct.out];exact h
      exact⟨d4,b0 _ _ e1,b0 _ _ e2,b0 _ _ e3,b0 _ _ e4,b0 _ _ e5⟩
     refine hK _ _ (λ_=>?_) ?_
     ·exact b9
     clear hK K'
     try simp only[Act.put,Bj,Bl,Bk]
     refine tj 7 (⟨some 88,.fieldAddr 187 (.tmp 11) 4,0,_,_,none⟩) (.pointer (some (O (bm+1) 4))) (b9) ?_ ?_
     ·rintro w⟨_,_,_,_,_,_⟩;go_simp
     try simp only[Act.put,Bj,Bl,Bk]
     refine DS (rs:=[8]) (by kernel_rfl) (by simp) ?_;intro i hi;simp only[Zm,Zn,or_false] at hi;subst hi;refine Ck (o:=⟨none,.store 49 (.tmp 88) (.tmp 87),0,_,_,none⟩) rfl (λK' hK=>?_);go_simp;refine hK _ _ (λh=>absurd h (by decide)) ?_;clear hK K'
     try simp only[Act.put,Bj,Bl,Bk]
     refine EZ (by kernel_rfl) ?_ _
     try simp only[Act.put,Bj,Bl,Bk]
     have bd:=CH ((bh.out y G _ _ _ hN.out));go_wp2;go_roundg (m.code.length-(j+1))
     case measure=>omega
     case rel=>exact bd.out
   | some lf=>
     obtain rfl:=M lf b5;obtain⟨L,-,-,a9⟩:=LQ hX b5;have ce:=L.args;have bv:=L.temps;have d0:=L.len;have d6:=L.code;have lb0:V.cell? (O bl 0)=some (qZ d.name):=by rw[Bn lbox];rfl
     have lb1:V.cell? (O bl 1)=some (J d.args):=by rw[Bn lbox];rfl
     have lb2:V.cell? (O bl 2)=some (J d.temps):=by rw[Bn lbox];rfl
     have lb3:V.cell? (O bl 3)=some (J d.prim):=by rw[Bn lbox];rfl
     have lb4:V.cell? (O bl 4)=some (qS al d.code.length cl):=by rw[Bn lbox];rfl
     have f0:=hL.f0;have f1:=hL.f1;have f2:=hL.f2;have f3:=hL.f3;have f4:=hL.f4;have m4:=hL.m4;have dz:IntKind.i64.wrap ((m.code.length:Int)-(j:Int))=(m.code.length:Int)-(j:Int):=CM Zo Zo;simp only[Option.isSome];go_wp2_with fail;refine (show Calls Tryz.prog 150 #[FW ⟨(qc:Int),m.name,X.ez,s.temps,[]⟩ (qS a s.code.length cap),MV d (qS al d.code.length cl),J ((m.code.length:Int)-(j:Int))] V _ from (xko ⟨(qc:Int),m.name,X.ez,s.temps,[]⟩ a s.code.length cap d al cl ((m.code.length:Int)-(j:Int)) V ce bv (by simp only;omega) Zo).mono ?_);rintro e w4 ⟨rfl,l⟩;dsimp only;replace hL:=hL.later l;replace bi:=bi.later BR l;replace xb0:=Bf l xb0;replace xb1:=Bf l xb1;replace xb2:=Bf l xb2;replace xb3:=Bf l xb3;replace xb4:=Bf l xb4;replace lbox:=Bs lbox l;clear lb0 lb1 lb2 lb3 lb4 f0 f1 f2 f3 f4 m4 ca xboxV;have ca:=hL.sz;by_cases hroom:Kz s.code.length s.temps d ((m.code.length:Int)-j)=true
     ·rw[hroom];have cr:Hid (DK X.cz sites m.code.length s.code.length s.temps j x=some d):=by show _=_;rw[cj.out _ b5];simp[hroom]
      have cg:0<=sites.getD j (-1):=by
       unfold Et at b5;split at b5
       ·rename_i h;exact h.2
       cases b5
      obtain⟨ks,q⟩:∃ks,sites[j]?=some ks:=by
       cases h:sites[j]? with
       | none=>rw[List.getD_eq_getElem?_getD,h] at cg;simp at cg
       | some ks=>exact⟨ks,rfl⟩
      have d2:Hid (sites.getD j (-1)=ks):=by show _=_;rw[List.getD_eq_getElem?_getD,q];rfl
      have dx:j<sites.length:=Bz q;obtain⟨bs,os,ag,-,y0⟩:=R j ks q;subst ag;have y0':w.cell? (O bs (os+j))=some (J ks):=by simpa [Md] using y0
      have dh:bs<w.heap.size:=World.block_lt_of_cell? w (O bs (os+j)) y0';have y1:=hL.old Zo (Bf bg y0');have d9:=of_decide_eq_true hroom;have dd:(j:Int)<(sites.length:Int):=by omega
      clear b5 M hroom l bn c8 K y0 y0' q cg;generalize w4=V at *;have b4:∀w',qY V w'->w'.cell? (O bs (os+j))=some (J ks)/\w'.cell? (O bl 1)=some (J d.args):=λw' hb=>⟨Bf hb y1,by rw[Bn (Bs lbox hb)];rfl⟩
      have az:=b4 _ (Br _ V).drew;go_upto_region 14 with (fail);refine Fm (S:=λw'=>w'.cell? (O bs (os+j))=some (J ks)/\w'.cell? (O bl 1)=some (J d.args)) [9] (by kernel_rfl) ?_;refine tj 0 (⟨some 89,.move (.tmp 3),47,_,_,none⟩) (qS (some (O bs os)) sites.length cs) (az) ?_ ?_
      ·rintro w⟨_,_⟩;go_simp
      try simp only[Act.put,Bj,Bl,Bk]
      refine tj 1 (⟨some 90,.move (.tmp 14),3,_,_,none⟩) (J (j:Int)) (az) ?_ ?_
      ·rintro w⟨_,_⟩;go_simp
      try simp only[Act.put,Bj,Bl,Bk]
      refine tj 2 (⟨some 91,.indexAddr 47 (.tmp 89) (.tmp 90),0,_,_,none⟩) (.pointer (some (O bs (os+j)))) (az) ?_ ?_
      ·rintro w⟨_,_⟩;go_simp
      try simp only[Act.put,Bj,Bl,Bk]
      refine tj 3 (⟨some 92,.load 3 (.tmp 91),3,_,_,none⟩) (J ks) (az) ?_ ?_
      ·rintro w⟨_,_⟩;go_simp
      try simp only[Act.put,Bj,Bl,Bk]
      refine tj 4 (⟨some 93,.fieldAddr 51 (.tmp 16) 1,0,_,_,none⟩) (.pointer (some (O bl 1))) (az) ?_ ?_
      ·rintro w⟨_,_⟩;go_simp
      try simp only[Act.put,Bj,Bl,Bk]
      refine tj 5 (⟨some 94,.load 3 (.tmp 93),3,_,_,none⟩) (J d.args) (az) ?_ ?_
      ·rintro w⟨_,_⟩;go_simp
      try simp only[Act.put,Bj,Bl,Bk]
      refine tj 6 (⟨some 95,.move (.tmp 14),3,_,_,none⟩) (J (j:Int)) (az) ?_ ?_
      ·rintro w⟨_,_⟩;go_simp
      try simp only[Act.put,Bj,Bl,Bk]
      refine tj 7 (⟨some 96,.build 69 #[(0,.const (J 18)),(1,.tmp 92),(2,.tmp 94),(3,.tmp 95)],69,_,_,none⟩) (.agg #[J 18,J ks,J d.args,J (j:Int),qZ ⟨#[]⟩]) (az) ?_ ?_
      ·rintro w⟨_,_⟩;go_simp
      try simp only[Act.put,Bj,Bl,Bk]
      refine DS (rs:=[8]) (by kernel_rfl) (by simp) ?_;intro i hi;simp only[Zm,Zn,or_false] at hi;subst hi;refine Ck (o:=⟨some 18,.alloc 69,0,_,_,none⟩) rfl (λK' hK=>?_);go_simp;refine hK _ _ (λ_=>?_) ?_
      ·exact b4 _ (Bh (Br _ V).drew (Bg _ _))
      clear hK K'
      try simp only[Act.put,Bj,Bl,Bk]
      refine DS (rs:=[9]) (by kernel_rfl) (by simp) ?_;intro i hi;simp only[Zm,Zn,or_false] at hi;subst hi;refine Ck (o:=⟨none,.store 69 (.tmp 18) (.tmp 96),0,_,_,none⟩) rfl (λK' hK=>?_);go_simp;refine hK _ _ (λh=>absurd h (by decide)) ?_;clear hK K'
      try simp only[Act.put,Bj,Bl,Bk]
      refine EZ (by kernel_rfl) ?_ _
      try simp only[Act.put,Bj,Bl,Bk]
      have c3:qY V (V.alloc (qC #[J 18,J ks,J d.args,J (j:Int),qZ ⟨#[]⟩] 69)).drew:=(Bg _ _).drew;have gbox:(V.alloc (qC #[J 18,J ks,J d.args,J (j:Int),qZ ⟨#[]⟩] 69)).drew.heap[V.heap.size]?=some (qC #[J 18,J ks,J d.args,J (j:Int),qZ ⟨#[]⟩] 69 (0,0)):=BH V _;have c0:Hid (some V.heap.size≠(qS a s.code.length cap).ownBlock):=λe=>by have:=(hL.own.lt _ e.symm).2;omega
      replace hL:=hL.later c3;have c4:=bi.later BR c3;replace lbox:=Bs lbox c3;clear b4 az y1 c3 bi xb0 xb1 xb2 xb3 xb4;go_upto_region 15 with (fail);generalize hU:(V.alloc (qC #[J 18,J ks,J d.args,J (j:Int),qZ ⟨#[]⟩] 69)).drew=U at *;generalize V.heap.size=bq at *
      have b4:∀w',qY U w'->w'.cell? (O (bm+1) 0)=some (J (qc:Int))/\w'.cell? (O (bm+1) 1)=some (qZ m.name)/\w'.cell? (O (bm+1) 2)=some (J X.ez)/\w'.cell? (O (bm+1) 3)=some (J s.temps)/\w'.cell? (O (bm+1) 4)=some (qS a s.code.length cap)/\w'.cell? (O bl 0)=some (qZ d.name)/\w'.cell? (O bl 1)=some (J d.args)/\w'.cell? (O bl 2)=some (J d.temps)/\w'.cell? (O bl 3)=some (J d.prim)/\w'.cell? (O bl 4)=some (qS al d.code.length cl)/\w'.cell? (O bq 0)=some (J 18)/\w'.cell? (O bq 1)=some (J ks)/\w'.cell? (O bq 2)=some (J d.args)/\w'.cell? (O bq 3)=some (J (j:Int))/\w'.cell? (O bq 4)=some (qZ ⟨#[]⟩):=λw' hb=>by
       have h1:=hL.later hb;have h2:=Bs lbox hb;have h3:=Bs gbox hb;exact⟨h1.f0,h1.f1,h1.f2,h1.f3,h1.f4,by rw[Bn h2];rfl,by rw[Bn h2];rfl,by rw[Bn h2];rfl,by rw[Bn h2];rfl,by rw[Bn h2];rfl,by rw[Bn h3];rfl,by rw[Bn h3];rfl,by rw[Bn h3];rfl,by rw[Bn h3];rfl,by rw[Bn h3];rfl⟩
      have az:=b4 _ (Br _ U).drew;refine Fm (S:=λw'=>w'.cell? (O (bm+1) 0)=some (J (qc:Int))/\w'.cell? (O (bm+1) 1)=some (qZ m.name)/\w'.cell? (O (bm+1) 2)=some (J X.ez)/\w'.cell? (O (bm+1) 3)=some (J s.temps)/\w'.cell? (O (bm+1) 4)=some (qS a s.code.length cap)/\w'.cell? (O bl 0)=some (qZ d.name)/\w'.cell? (O bl 1)=some (J d.args)/\w'.cell? (O bl 2)=some (J d.temps)/\w'.cell? (O bl 3)=some (J d.prim)/\w'.cell? (O bl 4)=some (qS al d.code.length cl)/\w'.cell? (O bq 0)=some (J 18)/\w'.cell? (O bq 1)=some (J ks)/\w'.cell? (O bq 2)=some (J d.args)/\w'.cell? (O bq 3)=some (J (j:Int))/\w'.cell? (O bq 4)=some (qZ ⟨#[]⟩)) [10] (by kernel_rfl) ?_;refine tj 0 (⟨some 97,.fieldAddr 187 (.tmp 11) 4,0,_,_,none⟩) (.pointer (some (O (bm+1) 4))) (az) ?_ ?_
      ·rintro w⟨_,_,_,_,_,_,_,_,_,_,_,_,_,_,_⟩;go_simp
      try simp only[Act.put,Bj,Bl,Bk]
      refine tj 1 (⟨some 98,.load 49 (.tmp 97),49,_,_,none⟩) (qS a s.code.length cap) (az) ?_ ?_
      ·rintro w⟨_,_,_,_,_,_,_,_,_,_,_,_,_,_,_⟩;go_simp
      try simp only[Act.put,Bj,Bl,Bk]
      refine tj 2 (⟨some 99,.load 51 (.tmp 16),51,_,_,none⟩) (MV d (qS al d.code.length cl)) (az) ?_ ?_
      ·rintro w⟨_,_,_,_,_,_,_,_,_,_,_,_,_,_,_⟩;go_simp
      try simp only[Act.put,Bj,Bl,Bk]
      refine tj 3 (⟨some 100,.load 69 (.tmp 18),69,_,_,none⟩) (IV (BQ 18 ks d.args (j:Int))) (az) ?_ ?_
      ·rintro w⟨_,_,_,_,_,_,_,_,_,_,_,_,_,_,_⟩;go_simp
      try simp only[Act.put,Bj,Bl,Bk]
      refine tj 4 (⟨some 101,.load 187 (.tmp 11),187,_,_,none⟩) (FW ⟨(qc:Int),m.name,X.ez,s.temps,[]⟩ (qS a s.code.length cap)) (az) ?_ ?_
      ·rintro w⟨_,_,_,_,_,_,_,_,_,_,_,_,_,_,_⟩;go_simp
      try simp only[Act.put,Bj,Bl,Bk]
      refine tj 5 (⟨some 102,.load 51 (.tmp 16),51,_,_,none⟩) (MV d (qS al d.code.length cl)) (az) ?_ ?_
      ·rintro w⟨_,_,_,_,_,_,_,_,_,_,_,_,_,_,_⟩;go_simp
      try simp only[Act.put,Bj,Bl,Bk]
      refine DS (rs:=[6]) (by kernel_rfl) (by simp) ?_;intro i hi;simp only[Zm,Zn,or_false] at hi;subst hi;refine Ck (o:=⟨some 103,.call ⟨.value (.func 153),#[.tmp 101,.tmp 102],#[187,51]⟩,228,_,_,none⟩) rfl (λK' hK=>?_);refine EX rfl 153 (.func 153) #[.tmp 101,.tmp 102] _ rfl #[] rfl #[FW ⟨(qc:Int),m.name,X.ez,s.temps,[]⟩ (qS a s.code.length cap),MV d (qS al d.code.length cl)] (by simp[Act.eval,Act.put]) (cf28 _ _) ?_;refine (show Calls Tryz.prog 153 #[FW ⟨(qc:Int),m.name,X.ez,s.temps,[]⟩ (qS a s.code.length cap),MV d (qS al d.code.length cl)] U.drew _ from (xk5 ⟨(qc:Int),m.name,X.ez,s.temps,[]⟩ a s.code.length cap d al cl U.drew ce bv (by simp only;omega) Zo d0).mono ?_);rintro e w5 ⟨rfl,f⟩;refine⟨_,rfl,?_⟩;have b3:qY U w5:=Bh (Br _ U).drew f;simp only;refine hK _ _ (λ_=>?_) ?_
      ·exact b4 _ b3
      clear hK K'
      try simp only[Act.put,Bj,Bl,Bk]
      refine DS (rs:=[7]) (by kernel_rfl) (by simp) ?_;intro i hi;simp only[Zm,Zn,or_false] at hi;subst hi;refine Ck (o:=⟨some 104,.call ⟨.value (.func 152),#[.tmp 99,.tmp 100,.tmp 103],#[51,69,228]⟩,49,_,_,none⟩) rfl (λK' hK=>?_);refine EX rfl 152 (.func 152) #[.tmp 99,.tmp 100,.tmp 103] _ rfl #[] rfl #[MV d (qS al d.code.length cl),IV (BQ 18 ks d.args (j:Int)),MH s.temps (s.temps+1) (s.temps+1+d.args) (Fh d s.code.length) (Fh d s.code.length+d.code.length)] (by simp[Act.eval,Act.put]) (cf27 _ _) ?_;refine (show Calls Tryz.prog 152 #[MV d (qS al d.code.length cl),IV (BQ 18 ks d.args (j:Int)),MH s.temps (s.temps+1) (s.temps+1+d.args) (Fh d s.code.length) (Fh d s.code.length+d.code.length)] w5 _ from (xns d (BQ 18 ks d.args (j:Int)) s.temps s.code.length _ w5 (c4.later BR b3) ce bv Zo Zo d0 d6).mono ?_);rintro e w6 ⟨ap,cp,rfl,N,ae⟩;refine⟨_,rfl,?_⟩;have br:qY U w6:=Bh b3 ae;refine hK _ _ (λ_=>?_) ?_
      ·exact b4 _ br
      clear hK K'
      try simp only[Act.put,Bj,Bl,Bk]
      have cd:=CH (KB d (BQ 18 ks d.args (j:Int)) s.temps s.code.length);obtain⟨Pc,Y⟩:∃Pc,Hid (Pc=Eh d (BQ 18 ks d.args (j:Int)) s.temps s.code.length):=⟨_,rfl⟩;simp only[← Y.out] at N cd ⊢;refine DS (rs:=[8]) (by kernel_rfl) (by simp) ?_;intro i hi;simp only[Zm,Zn,or_false] at hi;subst hi;refine Ck (o:=⟨some 105,.call ⟨.builtin .append,#[.tmp 98,.tmp 104],#[49,49]⟩,49,_,_,none⟩) rfl (λK' hK=>?_);have bp:=hL.later br;have d7:0<Pc.length:=by have:=cd.out;omega
      have e7:Pc.length<=100:=by have:=cd.out;omega
      obtain⟨adp,ab⟩:∃adp,ap=some adp:=by
       obtain⟨-,h | ⟨g',o',c',cur,e,-⟩⟩:=N
       ·have:=h.2;omega
       cases e;exact⟨_,rfl⟩
      subst ab;obtain⟨v',w',p,r1,r2,r3,r4⟩:=xfV (w:=w6) 49 49 69 _ 5 48 Tryz.underlying49 Mg rfl Zo (bm+3) s.code.length (qS a s.code.length cap) (DG s.code) bp.own adp Pc.length cp d7 (DG Pc) (xdq _) (xpW N) (xhX _) (by unfold maxLen;omega) Zo bp.sz;obtain⟨a',cap',rfl,-⟩:=r1.form;refine xcI rfl (.tmp 98) (.tmp 104) 49 rfl (qS a s.code.length cap) (qS (some adp) Pc.length cp) (qS a' (s.code.length+Pc.length) cap') (by simp[Act.eval,Act.put]) (by simp[Act.eval,Act.put]) p ?_;have bo:=OwnI.more (ys:=Pc) r1 rfl rfl;have ba:=bp.setC bo r3;simp only[List.length_append] at ba;have hN:=CH ba;have d4:w'.cell? (O (bm+1) 4)=some (qS a s.code.length cap):=by unfold World.cell?;rw[r3.block (bm+1) Zo];exact bp.f4
      have df:∀o,w'.frozen? (O (bm+1) o)=false:=KC (by rw[r3.block (bm+1) Zo];exact bp.fb)
      have b9:w'.cell? (O (bm+1) 0)=some (J (qc:Int))/\w'.cell? (O (bm+1) 1)=some (qZ m.name)/\w'.cell? (O (bm+1) 2)=some (J X.ez)/\w'.cell? (O (bm+1) 3)=some (J s.temps)/\w'.cell? (O (bm+1) 4)=some (qS a s.code.length cap)/\w'.cell? (O bl 0)=some (qZ d.name)/\w'.cell? (O bl 1)=some (J d.args)/\w'.cell? (O bl 2)=some (J d.temps)/\w'.cell? (O bl 3)=some (J d.prim)/\w'.cell? (O bl 4)=some (qS al d.code.length cl)/\w'.cell? (O bq 0)=some (J 18)/\w'.cell? (O bq 1)=some (J ks)/\w'.cell? (O bq 2)=some (J d.args)/\w'.cell? (O bq 3)=some (J (j:Int))/\w'.cell? (O bq 4)=some (qZ ⟨#[]⟩):=by
       obtain⟨e0,e1,e2,e3,e4,l0,l1,l2,l3,l4,g0,g1,g2,g3,g4⟩:=b4 _ br
       have b0:∀b,some b≠(qS a s.code.length cap).ownBlock->∀o v,w6.cell? (O b o)=some v->w'.cell? (O b o)=some v:=λb hb o v h=>by
        unfold World.cell? at h ⊢;rw[r4 b (World.block_lt_of_cell? _ (O b o) h) hb];exact h
       have hf:∀o v,w6.cell? (O (bm+1) o)=some v->w'.cell? (O (bm+1) o)=some v:=λo v h=>by unfold World.cell? at h ⊢;rw[r3.block (bm+1) Zo];exact h
       exact⟨hf _ _ e0,hf _ _ e1,hf _ _ e2,hf _ _ e3,hf _ _ e4,b0 _ bw.out _ _ l0,b0 _ bw.out _ _ l1,b0 _ bw.out _ _ l2,b0 _ bw.out _ _ l3,b0 _ bw.out _ _ l4,b0 _ c0.out _ _ g0,b0 _ c0.out _ _ g1,b0 _ c0.out _ _ g2,b0 _ c0.out _ _ g3,b0 _ c0.out _ _ g4⟩
      refine hK _ _ (λ_=>?_) ?_
      ·exact b9
      clear hK K'
      try simp only[Act.put,Bj,Bl,Bk]
      refine tj 9 (⟨some 106,.fieldAddr 187 (.tmp 11) 4,0,_,_,none⟩) (.pointer (some (O (bm+1) 4))) (b9) ?_ ?_
      ·rintro w⟨_,_,_,_,_,_,_,_,_,_,_,_,_,_,_⟩;go_simp
      try simp only[Act.put,Bj,Bl,Bk]
      refine DS (rs:=[10]) (by kernel_rfl) (by simp) ?_;intro i hi;simp only[Zm,Zn,or_false] at hi;subst hi;refine Ck (o:=⟨none,.store 49 (.tmp 106) (.tmp 105),0,_,_,none⟩) rfl (λK' hK=>?_);go_simp;refine hK _ _ (λh=>absurd h (by decide)) ?_;clear hK K'
      try simp only[Act.put,Bj,Bl,Bk]
      refine EZ (by kernel_rfl) ?_ _
      try simp only[Act.put,Bj,Bl,Bk]
      have c6:=hN.out;have f3:=c6.f3;have ff:=c6.ff;obtain⟨-,-,-,-,-,-,a2,a7,-,-,-,-,-,-,-⟩:=b9;have l1:=Nf (b':=bm+1) (o':=4) (u:=qS a' (s.code.length+Pc.length) cap') a2 Zo;have l2:=Nf (b':=bm+1) (o':=4) (u:=qS a' (s.code.length+Pc.length) cap') a7 Zo;have h1:IntKind.i64.wrap (1+d.args)=1+d.args:=CM Zo Zo;have h2:IntKind.i64.wrap (1+d.args+d.temps)=1+d.args+d.temps:=CM Zo Zo;have h3:IntKind.i64.wrap (s.temps+(1+d.args+d.temps))=s.temps+1+d.args+d.temps:=by rw[CM Zo Zo];omega
      have h4:IntKind.i64.wrap ((s.pieces:Int)+1)=(s.pieces:Int)+1:=CM Zo Zo;have bd:=CH (da.out d cr.out (by rw[d2.out,← Y.out];exact c6.setT (s.temps+1+d.args+d.temps)));generalize (w'.setCell (O (bm+1) 4) (qS a' (s.code.length+Pc.length) cap'))=W6 at *;clear hN c6 ba bp N r1 r2 r3 r4 bo d4 df a2 a7 b4 az;go_wp2;go_roundg (m.code.length-(j+1))
      case measure=>omega
      case rel=>exact bd.out
     have bb:Kz s.code.length s.temps d ((m.code.length:Int)-j)=false:=by simpa using hroom
     rw[bb];have bh:Hid (∀y,CS x (j:Int)=y->∀a' cap' W,MtL Z bm m (qS (some (O bk ok)) m.code.length ck) (qc:Int) X.ez s.temps (s.code++[y]) ((s.begins++List.replicate (m.code.length-j) 0).set j (s.code.length:Int)) a' cap' W->Pr X sites Z bm m (qS (some (O bk ok)) m.code.length ck) (qc:Int) (m.code.length-(j+1)) (J (s.pieces:Int)) (J ((j:Int)+1)) W):=λy hy a' cap' W h=>by subst hy;exact cx.out (by rw[cj.out _ b5];simp[bb]) h
     clear b5 M hroom bb l bn c8 K;generalize w4=V at *;go_upto_region 13 with (fail);have b4:∀w',qY V w'->w'.cell? (O (bm+1) 4)=some (qS a s.code.length cap)/\w'.cell? (O bx 0)=some (J x.op)/\w'.cell? (O bx 1)=some (J x.a)/\w'.cell? (O bx 2)=some (J x.b)/\w'.cell? (O bx 3)=some (J x.c)/\w'.cell? (O bx 4)=some (qZ x.name):=λw' hb=>⟨(hL.later hb).f4,Bf hb xb0,Bf hb xb1,Bf hb xb2,Bf hb xb3,Bf hb xb4⟩
     have az:=b4 _ (Br _ V).drew;refine Fm (S:=λw'=>w'.cell? (O (bm+1) 4)=some (qS a s.code.length cap)/\w'.cell? (O bx 0)=some (J x.op)/\w'.cell? (O bx 1)=some (J x.a)/\w'.cell? (O bx 2)=some (J x.b)/\w'.cell? (O bx 3)=some (J x.c)/\w'.cell? (O bx 4)=some (qZ x.name)) [8] (by kernel_rfl) ?_;refine tj 0 (⟨some 81,.fieldAddr 187 (.tmp 11) 4,0,_,_,none⟩) (.pointer (some (O (bm+1) 4))) (az) ?_ ?_
     ·rintro w⟨_,_,_,_,_,_⟩;go_simp
     try simp only[Act.put,Bj,Bl,Bk]
     refine tj 1 (⟨some 82,.load 49 (.tmp 81),49,_,_,none⟩) (qS a s.code.length cap) (az) ?_ ?_
     ·rintro w⟨_,_,_,_,_,_⟩;go_simp
     try simp only[Act.put,Bj,Bl,Bk]
     refine tj 2 (⟨some 83,.load 69 (.tmp 15),69,_,_,none⟩) (IV x) (az) ?_ ?_
     ·rintro w⟨_,_,_,_,_,_⟩;go_simp
     try simp only[Act.put,Bj,Bl,Bk]
     refine tj 3 (⟨some 84,.move (.tmp 14),3,_,_,none⟩) (J (j:Int)) (az) ?_ ?_
     ·rintro w⟨_,_,_,_,_,_⟩;go_simp
     try simp only[Act.put,Bj,Bl,Bk]
     refine DS (rs:=[4]) (by kernel_rfl) (by simp) ?_;intro i hi;simp only[Zm,Zn,or_false] at hi;subst hi;refine Ck (o:=⟨some 85,.call ⟨.value (.func 151),#[.tmp 83,.tmp 84],#[69,3]⟩,69,_,_,none⟩) rfl (λK' hK=>?_);refine EX rfl 151 (.func 151) #[.tmp 83,.tmp 84] _ rfl #[] rfl #[IV x,J (j:Int)] (by simp[Act.eval,Act.put]) (cf26 _ _) ?_;refine (show Calls Tryz.prog 151 #[IV x,J (j:Int)] V.drew _ from (xgZ x (j:Int) V.drew).mono ?_);rintro e w5 ⟨rfl,f⟩;refine⟨_,rfl,?_⟩;have b3:qY V w5:=Bh (Br _ V).drew f;obtain⟨y,G⟩:∃y,CS x (j:Int)=y:=⟨_,rfl⟩;simp only[G];refine hK _ _ (λ_=>?_) ?_
     ·exact b4 _ b3
     clear hK K'
     try simp only[Act.put,Bj,Bl,Bk]
     refine DS (rs:=[5]) (by kernel_rfl) (by simp) ?_;intro i hi;simp only[Zm,Zn,or_false] at hi;subst hi;refine Ck (o:=⟨some 86,.buildSlice 49 1 #[(0,.tmp 85)],49,_,_,none⟩) rfl (λK' hK=>?_);go_simp;refine hK _ _ (λ_=>?_) ?_
     ·exact b4 _ (Bh b3 (Bg _ _))
     clear hK K'
     try simp only[Act.put,Bj,Bl,Bk]
     refine DS (rs:=[6]) (by kernel_rfl) (by simp) ?_;intro i hi;simp only[Zm,Zn,or_false] at hi;subst hi;refine Ck (o:=⟨some 87,.call ⟨.builtin .append,#[.tmp 82,.tmp 86],#[49,49]⟩,49,_,_,none⟩) rfl (λK' hK=>?_);have b6:=(hL.later b3).later (Bg w5 (qE y));obtain⟨v',w',p,r1,r2,r3,r4⟩:=xcQ (w:=w5.alloc (qE y)) 49 49 69 _ 5 48 Tryz.underlying49 Mg rfl Zo (bm+3) s.code.length (qS a s.code.length cap) (DG s.code) b6.own w5.heap.size [J y.op,J y.a,J y.b,J y.c,qZ y.name] rfl (BH w5 _) (by intro u hu;simp only[Zm,Zn,or_false] at hu;rcases hu with h | h | h | h | h<;>(subst h;rfl)) (by unfold maxLen;omega) Zo b6.sz;obtain⟨a',cap',rfl,-⟩:=r1.form;refine xcI rfl (.tmp 82) (.tmp 86) 49 rfl (qS a s.code.length cap) (qG w5.heap.size 1 1) (qS a' (s.code.length+1) cap') (by simp[Act.eval,Act.put]) (by simp[Act.eval,Act.put]) p ?_;have bo:=OwnI.more (ys:=[y]) r1 rfl rfl;have ba:=b6.setC bo r3;simp only[List.length_append,List.length_cons,List.length_nil,Nat.zero_add] at ba;have hN:=CH ba;have d4:w'.cell? (O (bm+1) 4)=some (qS a s.code.length cap):=by unfold World.cell?;rw[r3.block (bm+1) Zo];exact b6.f4
     have df:∀o,w'.frozen? (O (bm+1) o)=false:=KC (by rw[r3.block (bm+1) Zo];exact b6.fb)
     have b9:w'.cell? (O (bm+1) 4)=some (qS a s.code.length cap)/\w'.cell? (O bx 0)=some (J x.op)/\w'.cell? (O bx 1)=some (J x.a)/\w'.cell? (O bx 2)=some (J x.b)/\w'.cell? (O bx 3)=some (J x.c)/\w'.cell? (O bx 4)=some (qZ x.name):=by
      obtain⟨e0,e1,e2,e3,e4,e5⟩:=b4 _ (Bh b3 (Bg w5 (qE y)))
      have b0:∀o v,(w5.alloc (qE y)).cell? (O bx o)=some v->w'.cell? (O bx o)=some v:=λo v h=>by
       unfold World.cell? at h ⊢;rw[r4 bx (World.block_lt_of_cell? _ (O bx o) h) ct.out];exact h
      exact⟨d4,b0 _ _ e1,b0 _ _ e2,b0 _ _ e3,b0 _ _ e4,b0 _ _ e5⟩
     refine hK _ _ (λ_=>?_) ?_
     ·exact b9
     clear hK K'
     try simp only[Act.put,Bj,Bl,Bk]
     refine tj 7 (⟨some 88,.fieldAddr 187 (.tmp 11) 4,0,_,_,none⟩) (.pointer (some (O (bm+1) 4))) (b9) ?_ ?_
     ·rintro w⟨_,_,_,_,_,_⟩;go_simp
     try simp only[Act.put,Bj,Bl,Bk]
     refine DS (rs:=[8]) (by kernel_rfl) (by simp) ?_;intro i hi;simp only[Zm,Zn,or_false] at hi;subst hi;refine Ck (o:=⟨none,.store 49 (.tmp 88) (.tmp 87),0,_,_,none⟩) rfl (λK' hK=>?_);go_simp;refine hK _ _ (λh=>absurd h (by decide)) ?_;clear hK K'
     try simp only[Act.put,Bj,Bl,Bk]
     refine EZ (by kernel_rfl) ?_ _
     try simp only[Act.put,Bj,Bl,Bk]
     have bd:=CH ((bh.out y G _ _ _ hN.out));go_wp2;go_roundg (m.code.length-(j+1))
     case measure=>omega
     case rel=>exact bd.out
  obtain rfl:j=m.code.length:=by omega
  have c9:Hid (En X (qc:Int) m sites=if (Bv X.cz sites m m.code.length).pieces=0 then (Kh,false) else (⟨(qc:Int),m.name,X.ez,(Bv X.cz sites m m.code.length).temps,Dx (Bv X.cz sites m m.code.length).begins m.code (Bv X.cz sites m m.code.length).code m.code.length⟩,true)):=rfl;have c1:=CH (Ml (xs:=X.cz) (sites:=sites) (m:=m) (k:=m.code.length) (Bq _));have cu:=CH (xf3 (xs:=X.cz) (sites:=sites) (m:=m) m.code.length);have dc:=CH (xi2 (xs:=X.cz) (sites:=sites) (m:=m) m.code.length);have d5:=CH (xlJ hC (sites:=sites) (xsg hC hm) m.code.length);obtain⟨i1,i2,i3,i4⟩:=NN hX c5 (sites:=sites) (k:=m.code.length) (Bq _);simp only[Nat.sub_self,List.replicate_zero,List.append_nil] at hL;generalize Bv X.cz sites m m.code.length=s at *;have cn:=hL.below bg Zo;have q0:=hL.old Zo bc.z0;have q1:=hL.old Zo bc.z1;have q2:=hL.old Zo bc.z2;have q3:=hL.old Zo bc.z3;have q4:=hL.old Zo bc.z4
  have qf:∀o,wr.frozen? (O (w.heap.size+1) o)=false:=λo=>by
   have:=bc.zf o;unfold World.frozen? at this ⊢;rw[hL.fix (w.heap.size+1) Zo];exact this
  by_cases hp:s.pieces=0
  ·have HZ:Hid (En X (qc:Int) m sites=(Kh,false)):=by show _=_;rw[c9.out,if_pos hp]
   have e6:((s.pieces:Int) == 0)=true:=by simp[hp]
   have HQ:=CH (xnS (U:=wr) cn);clear c9 hp;go_wp2;rw[HZ.out];refine Bt (v:=.tuple #[FW Kh (qN),.bool false]) ?_ rfl HQ.out;simp[results,Tryz.results114,go_sem,q0,q1,q2,q3,q4,Kh]
  have dl:((s.pieces:Int) == 0)=false:=by simp;omega
  have dp:0<s.code.length:=by have:=cu.out;omega
  have HZ:Hid (En X (qc:Int) m sites=(⟨(qc:Int),m.name,X.ez,s.temps,Dx s.begins m.code s.code m.code.length⟩,true)):=by show _=_;rw[c9.out,if_neg hp]
  obtain⟨g,o,ad⟩:∃g o,a=some (O g o):=by
   obtain⟨-,h | ⟨g',o',c',cur,e,-⟩⟩:=hL.own
   ·have:=h.2;omega
   cases e;exact⟨_,_,rfl⟩
  subst ad;have dn:=hL.own.lt g rfl;have f4:=hL.f4;have m4:=hL.m4
  have bt:LH (λb=>b=bm+2) wr (qG (bm+2) m.code.length m.code.length) s.begins:=by
   have hl:=c1.out;refine⟨_,_,by rw[hl],by omega,by unfold maxLen;omega,by omega,λi x hx=>⟨bm+2,0,rfl,rfl,?_⟩⟩;show wr.cell? (O (bm+2) (0+i*1+0))=_;rw[show 0+i*1+0=i by omega];exact hL.g hx
  clear hp c9 cu;go_wp2_with fail;refine (xp3 s.code m.code s.begins g o cap (bm+3) _ _ wr hL.own (a3.later BR cn) bt (λb hb=>by omega) (λb hb=>by omega) c1.out cq dc.out).mono ?_;rintro e w5 ⟨rfl,a6,f,n⟩;dsimp only;have du:=f.size;have di:=hL.sz;have b8:w5.heap[bm+1]?=some (qC #[J (qc:Int),qZ m.name,J X.ez,J s.temps,qS (some (O g o)) s.code.length cap] 187 (0,0)):=by rw[n (bm+1) Zo Zo];exact hL.fb
  have b7:∀k v,wr.cell? (O (w.heap.size+1) k)=some v->w5.cell? (O (w.heap.size+1) k)=some v:=λk v h=>by unfold World.cell? at h ⊢;rw[n (w.heap.size+1) Zo Zo];exact h
  replace q0:=b7 _ _ q0;replace q1:=b7 _ _ q1;replace q2:=b7 _ _ q2;replace q3:=b7 _ _ q3;replace q4:=b7 _ _ q4;replace qf:∀o,w5.frozen? (O (w.heap.size+1) o)=false:=λo=>by have:=qf o;unfold World.frozen? at this ⊢;rw[n (w.heap.size+1) Zo Zo];exact this
  have p0:w5.cell? (O (bm+1) 0)=some (J (qc:Int)):=by rw[Bn b8];rfl
  have p1:w5.cell? (O (bm+1) 1)=some (qZ m.name):=by rw[Bn b8];rfl
  have p2:w5.cell? (O (bm+1) 2)=some (J X.ez):=by rw[Bn b8];rfl
  have p3:w5.cell? (O (bm+1) 3)=some (J s.temps):=by rw[Bn b8];rfl
  have p4:w5.cell? (O (bm+1) 4)=some (qS (some (O g o)) s.code.length cap):=by rw[Bn b8];rfl
  have cb:=Mt s.begins m.code s.code m.code.length;have c2:Cm (λb=>w.heap.size+2<=b/\b<w5.heap.size) w5 (qS (some (O g o)) (Dx s.begins m.code s.code m.code.length).length cap) (Dx s.begins m.code s.code m.code.length):=xsb a6 (xqs d5.out _) (λb h1 h2=>⟨by omega,h2⟩) Zo;have d3:qY w w5:=cn.trans ⟨f.os,f.tape,f.output,f.size,λb hb=>f.block b Zo⟩;have HQ:=CH (xqk (U:=w5) (r:=(⟨(qc:Int),m.name,X.ez,s.temps,Dx s.begins m.code s.code m.code.length⟩,true)) d3 c2);simp only[cb] at HQ;clear b7 c2 a6 b8 n f f4 m4 bt cb;go_wp2;rw[HZ.out];refine Bt (v:=.tuple #[FW ⟨(qc:Int),m.name,X.ez,s.temps,Dx s.begins m.code s.code m.code.length⟩ (qS (some (O g o)) s.code.length cap),.bool true]) ?_ rfl HQ.out;simp[results,Tryz.results114,go_sem,q0,q1,q2,q3,q4]
end Go.Proofs.YtbafokihegegiaaGreatDoor
