import Derived.Test.YtbafokihegegiaaGreatDoorU7
namespace Go.Proofs.YtbafokihegegiaaGreatDoor
open ChangeShapes WideShapes ChangeAt RowKit
set_option linter.unusedSimpArgs false
set_option linter.unusedVariables false
set_option maxHeartbeats 8000000
set_option maxRecDepth 8000
theorem Zo{p:Prop}(h:p:=by omega):p:=h
theorem OwnC.rowIn {w:qW}{B:Nat}{xs:List QC}{s:Nat->Nat}(h:OwnC w B xs s xs.length)(a:xs.length*56<=140737488351232):BK (λb=>B<=b/\b<s xs.length) w (qG B xs.length xs.length) xs:=by
 have t:=h.2.1;have o:=h.mono 0 xs.length (by omega) (Bq _);refine⟨_,_,rfl,Bq _,by unfold maxLen;omega,a,λi x f=>⟨B,0,rfl,⟨Bq _,by omega⟩,?_⟩⟩;have m:=Bz f;have u:=h.mono (i+1) xs.length (by omega) (Bq _);have d:=h.2.2.2.2 i x m f;have r:=h.mono 0 i (by omega) (by omega);obtain⟨g,n,c,q⟩:=d.meths;obtain⟨k,j,l,p,-⟩:=d;simp only[Nat.zero_add];exact⟨k,j,l,p,_,n,q.mono xbj λb e=>⟨by have:=e.1;omega,by have:=e.2;omega⟩⟩
theorem xlT {P:Nat->Prop}(X:QW)(cv hv:Value)(w:qW)(d:BK P w cv X.cz)(f:BP P w hv X.heap):Calls Tryz.prog 32 #[WV cv hv X.ez] w λe w'=>∃g gh sh,e=.returned (WV (qG g X.cz.length X.cz.length) (qG gh X.heap.length X.heap.length) X.ez)/\BK (λb=>w.heap.size<=b/\b<gh) w' (qG g X.cz.length X.cz.length) X.cz/\HRow w' gh sh X.heap X.heap.length/\w.heap.size<=gh/\qY w w':=by
 obtain⟨a1,c1,e1,-,-,b1,-⟩:=id d;refine (xn9 X cv hv w d f).mono ?_;rintro e w' ⟨g,gh,s,rfl,c,⟨sh,h⟩,j,l,a⟩;have k:=c.2.1;have i:=c.mono 0 X.cz.length (by omega) (Bq _);exact⟨g,gh,sh,rfl,(c.rowIn b1).mono Bw λb a=>⟨by have:=a.1;omega,by have:=a.2;omega⟩,h,by omega,a⟩
theorem HRow.isHeap {w:qW}{g:Nat}{s:Nat->Nat}{xs:List QO}(h:HRow w g s xs xs.length)(a:xs.length*32<=140737488351232):BP (λb=>g<=b) w (qG g xs.length xs.length) xs:=by
 have d:∀b,g<=b->b<w.heap.size->(λb=>if g<=b then 2 else 0) b=2:=λb c _=>by simp[c]
 refine (h.heap a d).heap.mono BB λb c=>?_;have:=c.2;simp only at this;split at this
 ·assumption
 cases this
section
variable {σ:Type} {L:(Nat->Nat)->World->σ->Nat->Prop} {LF QF:Nat} {lc qc:Array Value}
structure Lok (L:(Nat->Nat)->World->σ->Nat->Prop):Prop where
 keep:∀ {T T':Nat->Nat} {w w':qW} {st:σ} {n:Nat} {S:Nat->Prop},L T w st n->Ext T T' w->Kp S T w w'->¬ S 0->¬ S 3->L T' w' st n
 mono:∀ {T:Nat->Nat} {w:qW} {st:σ} {n n':Nat},L T w st n->n'<=n->L T w st n'
theorem WiPost.fin (a:Lok L){w U:qW}{X:QW}{r:Ran × σ}{cv hv:Value}{P:Nat->Prop}{T0 T1:Nat->Nat}{n:Nat}(i:Kp (λt=>t=3) T0 w U)(m:Ext T0 T1 w)(j:L T1 U r.2 n)(t2:T1 (w.heap.size+2)=4)(t3:T1 (w.heap.size+3)=4)(l:BK P U cv X.cz)(g:BP P U hv r.1.heap)(e:¬ P (w.heap.size+2))(d:¬ P (w.heap.size+3))(f:∀x,P x->w.heap.size<=x/\T1 x≠3)(u0 u1 u2 v0 v1 v2 v3:Value) :
  WiPost L T0 w X r (.returned (.tuple #[WV cv hv X.ez,Hh r.1])) (((((((U.setCell (O (w.heap.size+2) 0) u0).setCell (O (w.heap.size+2) 1) u1).setCell (O (w.heap.size+2) 2) u2).setCell (O (w.heap.size+3) 0) v0).setCell (O (w.heap.size+3) 1) v1).setCell (O (w.heap.size+3) 2) v2).setCell (O (w.heap.size+3) 3) v3):=by
 have k:Keeps P U (((((((U.setCell (O (w.heap.size+2) 0) u0).setCell (O (w.heap.size+2) 1) u1).setCell (O (w.heap.size+2) 2) u2).setCell (O (w.heap.size+3) 0) v0).setCell (O (w.heap.size+3) 1) v1).setCell (O (w.heap.size+3) 2) v2).setCell (O (w.heap.size+3) 3) v3):=CK (CK (CK (CK (CK (CK (CK (Keeps.refl _ _) e _) e _) e _) d _) d _) d _) d _;have c:¬ w.heap.size+2<w.heap.size:=by omega
 have b:¬ w.heap.size+3<w.heap.size:=by omega
 have k4:Kp (λt=>t=4) T1 U (((((((U.setCell (O (w.heap.size+2) 0) u0).setCell (O (w.heap.size+2) 1) u1).setCell (O (w.heap.size+2) 2) u2).setCell (O (w.heap.size+3) 0) v0).setCell (O (w.heap.size+3) 1) v1).setCell (O (w.heap.size+3) 2) v2).setCell (O (w.heap.size+3) 3) v3):=(((((((Kp.refl _ _ _).set (λ_=>t2) _ _).set (λ_=>t2) _ _).set (λ_=>t2) _ _).set (λ_=>t3) _ _).set (λ_=>t3) _ _).set (λ_=>t3) _ _).set (λ_=>t3) _ _;refine⟨((((((i.set (λh=>absurd h c) _ _).set (λh=>absurd h c) _ _).set (λh=>absurd h c) _ _).set (λh=>absurd h b) _ _).set (λh=>absurd h b) _ _).set (λh=>absurd h b) _ _).set (λh=>absurd h b) _ _,T1,m,a.mono (a.keep j (.refl _ _) k4 (by omega) (by omega)) (Nat.zero_le _),cv,hv,rfl,l.keep Bw k f,g.keep BB k f⟩
theorem WiPost.drew (a:Lok L){w w':qW}{X:QW}{r:Ran × σ}{T0:Nat->Nat}{e:Ending}(h:WiPost L T0 w X r e w'):WiPost L T0 w X r e w'.drew:=by
 obtain⟨f,T',g,c,cv,hv,rfl,b,d⟩:=h;exact⟨f.drew,T',g,a.keep c (.refl _ _) (Kp.refl (λ_=>False) _ _).drew id id,cv,hv,rfl,b.later Bw (Br _ _).drew,d.later BB (Br _ _).drew⟩
end
theorem xdL (d:Nat)(t:TypeId)(k:Nat)(c:Array Value)(w:qW){a b v}(h:Tryz.prog.underlying t=some (.func a b v)):(Op.equalIn (d+1) t (.func (.func k) #[] c) .nilFunc).run Tryz.prog w=.ok false w:=by
 simp[Op.equalIn,run_underlying h]
theorem xso (k:Nat)(c:Array Value)(w:qW):(binOp .eql 179 (.func (.func k) #[] c) .nilFunc).run Tryz.prog w=.ok (.bool false) w:=by
 simp only[binOp];have:(Op.equal 179 (.func (.func k) #[] c) .nilFunc).run Tryz.prog w=.ok false w:=xdL 9999 179 k c w Tryz.underlying179;simp[this]
theorem xsj (k:Nat)(c:Array Value)(w:qW):(binOp .eql 184 (.func (.func k) #[] c) .nilFunc).run Tryz.prog w=.ok (.bool false) w:=by
 simp only[binOp];have:(Op.equal 184 (.func (.func k) #[] c) .nilFunc).run Tryz.prog w=.ok false w:=xdL 9999 184 k c w Tryz.underlying184;simp[this]
def KH (T0:Nat->Nat)(n gh mb:Nat):Nat->Nat:=λx=>if x<n then T0 x else if x<n+4 then 4 else if x<gh then 0 else if x<mb then 2 else 1
structure EeR (w:qW)(mb:Nat)(v0 v1:Value)(ep n:Int)(w':qW):Prop where
 w0:w'.cell? (O w.heap.size 0)=some v0
 w1:w'.cell? (O w.heap.size 1)=some v1
 w2:w'.cell? (O w.heap.size 2)=some (J ep)
 m4:w'.cell? (O mb 4)=some (J n)
 lt:w.heap.size+4<=mb
theorem EeR.later {w:qW}{mb:Nat}{v0 v1:Value}{ep n:Int}{w' w'':qW}(h:EeR w mb v0 v1 ep n w')(a:qY w' w''):EeR w mb v0 v1 ep n w'':=⟨Bf a h.w0,Bf a h.w1,Bf a h.w2,Bf a h.m4,h.lt⟩
theorem EeR.set {w:qW}{mb:Nat}{v0 v1:Value}{ep n:Int}{w':qW}(h:EeR w mb v0 v1 ep n w'){b:Nat}(c:b=w.heap.size+2\/b=w.heap.size+3)(o:Nat)(u:Value):EeR w mb v0 v1 ep n (w'.setCell (O b o) u):=
 have a:=h.lt
 ⟨(BV _ _ _ _ (by simp;omega)).trans h.w0,(BV _ _ _ _ (by simp;omega)).trans h.w1,(BV _ _ _ _ (by simp;omega)).trans h.w2,(BV _ _ _ _ (by simp;omega)).trans h.m4,a⟩
theorem EeR.al {w:qW}{mb:Nat}{v0 v1:Value}{ep n:Int}{w':qW}(h:EeR w mb v0 v1 ep n w'):w'.cell? (O w.heap.size 0)=some v0/\w'.cell? (O w.heap.size 1)=some v1/\w'.cell? (O w.heap.size 2)=some (J ep)/\w'.cell? (O mb 4)=some (J n):=⟨h.w0,h.w1,h.w2,h.m4⟩
theorem xiL {σ:Type}{L:(Nat->Nat)->World->σ->Nat->Prop}{LF QF:Nat}{lc qc:Array Value}{T0:Nat->Nat}(X:QW)(hX:BM X=0)(E:Env σ)(st0:σ)(H:E.cz=X.cz)(s:QV)(name:ByteArray)(d:List QV)(cv hv av:Value)(w:qW)(Y:∀x,x<w.heap.size->T0 x=0\/T0 x=3)(hC:BK (Fx T0 w) w cv X.cz)(hH:BP (Fx T0 w) w hv X.heap)(hA:CG (Fx T0 w) w av d)(hn:name.size<=140737488351232)(o:Lok L)(hL:L T0 w st0 (min E.fuel.toNat 400))(a6:0<=E.fuel->E.fuel<=400->∀cv',Cx (⟨E,cv',X.ez,.func (.func LF) #[] lc,.func (.func QF) #[] qc⟩:Mp σ) L LF lc QF qc) :
  Calls Tryz.prog 108 #[WV cv hv X.ez,EL s name av,J E.fuel,.func (.func LF) #[] lc,.func (.func QF) #[] qc] w λe w'=>WiPost L T0 w X (DQ E X st0 s name d E.fuel) e w':=by
 obtain⟨fuel,u⟩:∃fuel,E.fuel=fuel:=⟨_,rfl⟩;rw[u] at hL ⊢;have aw:=hid u;clear u;have hR:=xkJ w cv hv X.ez s name av;have b9:qY w ((((w.alloc (qC #[cv,hv,J X.ez] 26)).alloc (qC #[J s.k,J s.n,qZ name,av] 54)).alloc (qO)).alloc (qC #[J 0,J 0,J 0,J 0] 98)):=Bh (BG _ _ _) (BG _ _ _);obtain⟨ac,cc,a9,-,-,ab,-⟩:=id hC;obtain⟨ah,ch,Z,-,-,z,-⟩:=id hH;obtain⟨aa,ca,a3,-⟩:=id hA;subst a9 Z a3;go_enter Tryz.func108,Tryz.ntmps108;go_upto_region 1 with (fail);generalize ((((w.alloc (qA ac cc ah ch X)).alloc (qK s name aa d ca)).alloc (qO)).alloc (qC #[J 0,J 0,J 0,J 0] 98))=W at *;obtain⟨w0,w1,w2,c0,c1,c2,c3,-⟩:=id hR;have bd:=xnq X s name d fuel (qS ac X.cz.length cc) _ _ W ⟨_,_,_,rfl⟩ (hH.later BB b9) (hA.later BZ b9) hn;have ai:Hid (DQ E X st0 s name d fuel=if EY X s name d fuel≠0 then (⟨X.heap,BC,EY X s name d fuel,0⟩,st0) else (Ny X (Gs E X st0 s name d),(Gs E X st0 s name d).1.st)):=rfl
 have ay:Hid (EY X s name d fuel=0->(0<=fuel/\fuel<=400)/\Cn X.heap.length s=0/\VsOk X.heap.length d):=xd1;obtain⟨ws,U⟩:∃ws,EY X s name d fuel=ws:=⟨_,rfl⟩;rw[U] at bd ai ay;clear U;go_wp2_with fail;refine bd.mono ?_;rintro e F ⟨rfl,T⟩;have ap:=hR.later T;have ax:=hid (Bh b9 T);clear w0 w1 w2 c0 c1 c2 c3 bd hR;have ao:=λw' (k:Kp (λt=>t=3) T0 w w')=>xlT X _ _ w' (hC.fx Bw (.refl _ _) k Zo) (hH.fx BB (.refl _ _) k Zo);obtain⟨w0,w1,w2,c0,c1,c2,c3,-⟩:=id ap;by_cases hz:ws=0
 ·have bs:(ws != 0)=false:=by simpa using hz
  rw[if_neg (by simpa using hz)] at ai;obtain⟨M,a7,a4⟩:=ay.out hz;clear ay hz;have bu:=xso;have c5:=xsj;have c8:∀(w:qW) (a:Addr) (k:Nat) (c:Array Value),(store a (.func (.func k) #[] c)).run Tryz.prog w=stored Tryz.prog w a (.func (.func k) #[] c) .plain:=λw a k c=>run_store Tryz.prog w a _ _ rfl;go_wp2_with fail;refine (ao _ (Kp.of_below ax.out)).mono ?_;rintro e f ⟨g,gh,sh,rfl,p,m,a5,l⟩;have az:=ap.later l;have c6:=ap.sz;have bz:=hid (Bh ax.out l);clear w0 w1 w2 c0 c1 c2 c3 ap;have aq:=Bg f (MB (⟨E,qG g X.cz.length X.cz.length,X.ez,.func (.func LF) #[] lc,.func (.func QF) #[] qc⟩:Mp σ) (⟨X.heap,0,0,st0⟩:Mc σ) 0 (qG gh X.heap.length X.heap.length));have b7:=Bh bz.out aq;have cg:gh<f.heap.size:=by obtain⟨cur,h1,-⟩:=m.row;exact By h1
  have ci:=l.size;have TO:∀x,x<w.heap.size->KH T0 w.heap.size gh f.heap.size x=T0 x:=λx hx=>by unfold KH;rw[if_pos hx]
  have T4:∀i,i<4->KH T0 w.heap.size gh f.heap.size (w.heap.size+i)=4:=λi hi=>by unfold KH;rw[if_neg Zo,if_pos Zo]
  have Tc:∀x,F.heap.size<=x->x<gh->KH T0 w.heap.size gh f.heap.size x=0:=λx h1 h2=>by unfold KH;rw[if_neg Zo,if_neg Zo,if_pos h2]
  have Th:∀x,gh<=x->x<f.heap.size->KH T0 w.heap.size gh f.heap.size x=2:=λx h1 h2=>by unfold KH;rw[if_neg Zo,if_neg Zo,if_neg Zo,if_pos h2]
  have Tm:KH T0 w.heap.size gh f.heap.size f.heap.size=1:=by unfold KH;rw[if_neg Zo,if_neg Zo,if_neg Zo,if_neg Zo]
  generalize KH T0 w.heap.size gh f.heap.size=Tg at *
  have bh:MacAt (⟨E,qG g X.cz.length X.cz.length,X.ez,.func (.func LF) #[] lc,.func (.func QF) #[] qc⟩:Mp σ) Tg (f.alloc (MB (⟨E,qG g X.cz.length X.cz.length,X.ez,.func (.func LF) #[] lc,.func (.func QF) #[] qc⟩:Mp σ) (⟨X.heap,0,0,st0⟩:Mc σ) 0 (qG gh X.heap.length X.heap.length))) f.heap.size ⟨X.heap,0,0,st0⟩ 0 (qG gh X.heap.length X.heap.length) gh sh:=
   ⟨BH f _,Tm,(m.heap z Th).keep (.refl _ _) (Kp.of_below (S:=λ_=>False) aq) id,by rw[H];exact p.keep Bw (Keeps.of_below aq) λx hx=>⟨by have:=hx.2;simp;omega,Tc x hx.1 hx.2⟩⟩
  have b4:Ext T0 Tg w:=λx hx=>TO x hx;have bc:Kp (λ_=>False) T0 w (f.alloc (MB (⟨E,qG g X.cz.length X.cz.length,X.ez,.func (.func LF) #[] lc,.func (.func QF) #[] qc⟩:Mp σ) (⟨X.heap,0,0,st0⟩:Mc σ) 0 (qG gh X.heap.length X.heap.length))):=Kp.of_below b7
  have bl:L Tg (f.alloc (MB (⟨E,qG g X.cz.length X.cz.length,X.ez,.func (.func LF) #[] lc,.func (.func QF) #[] qc⟩:Mp σ) (⟨X.heap,0,0,st0⟩:Mc σ) 0 (qG gh X.heap.length X.heap.length))) st0 (E.fuel-0).toNat:=by
   rw[aw.out,Int.sub_zero];rw[Nat.min_eq_left Zo] at hL;exact o.keep hL b4 bc id id
  have bg:=hA.fx BZ b4 bc id;have bm:MIn (⟨E,qG g X.cz.length X.cz.length,X.ez,.func (.func LF) #[] lc,.func (.func QF) #[] qc⟩:Mp σ).E (⟨X.heap,0,0,st0⟩:Mc σ):=⟨by show HOk E.cz X.heap;rw[H];exact Pp hX,⟨by simp,by show (0:Int)<=E.fuel;rw[aw.out];exact M.1⟩,by simp⟩
  have am:=xou (a6 (by rw[aw.out];exact M.1) (by rw[aw.out];exact M.2) (qG g X.cz.length X.cz.length)) bh bl bm s name d _ a7 a4 bg (K:=5) (Bq _);have ar:=az.later aq;have ag:=hid b7;have au:Hid (BK (λx=>F.heap.size<=x/\x<gh) (f.alloc (MB (⟨E,qG g X.cz.length X.cz.length,X.ez,.func (.func LF) #[] lc,.func (.func QF) #[] qc⟩:Mp σ) (⟨X.heap,0,0,st0⟩:Mc σ) 0 (qG gh X.heap.length X.heap.length))) (qG g X.cz.length X.cz.length) X.cz):=p.later Bw aq;clear bh bl bg bm p m az aq l hL
  have bn:Hid (Gs E X st0 s name d=BL (⟨E,qG g X.cz.length X.cz.length,X.ez,.func (.func LF) #[] lc,.func (.func QF) #[] qc⟩:Mp σ).E 20 ⟨X.heap,0,0,st0⟩ (BF (⟨E,qG g X.cz.length X.cz.length,X.ez,.func (.func LF) #[] lc,.func (.func QF) #[] qc⟩:Mp σ).E.cz (Ch X.heap s) name).1 (BF (⟨E,qG g X.cz.length X.cz.length,X.ez,.func (.func LF) #[] lc,.func (.func QF) #[] qc⟩:Mp σ).E.cz (Ch X.heap s) name).2 s d):=by
   show Gs E X st0 s name d=BL E 20 ⟨X.heap,0,0,st0⟩ (BF E.cz (Ch X.heap s) name).1 (BF E.cz (Ch X.heap s) name).2 s d;rw[H];rfl
  rw[← bn.out] at am;clear bn;obtain⟨R,V⟩:∃R,Gs E X st0 s name d=R:=⟨_,rfl⟩;rw[V] at am ai;clear V;obtain⟨rm,v,er⟩:=R;unfold Ny at ai;simp only at ai;obtain⟨V3,D⟩:∃V3,V3=f.alloc (MB (⟨E,qG g X.cz.length X.cz.length,X.ez,.func (.func LF) #[] lc,.func (.func QF) #[] qc⟩:Mp σ) (⟨X.heap,0,0,st0⟩:Mc σ) 0 (qG gh X.heap.length X.heap.length)):=⟨_,rfl⟩;rw[← D] at am ar ag au;have b6:(f.alloc (qC #[qG g X.cz.length X.cz.length,qG gh X.heap.length X.heap.length,J X.ez,J fuel,J 0,J 0,J 0,.func (.func LF) #[] lc,.func (.func QF) #[] qc] 217))=V3:=by rw[D,← aw.out]
  have bj:f.heap.size<V3.heap.size:=by rw[D];simp
  clear D;go_upto_region 9 with (fail)
  try rw[b6]
  clear b6;obtain⟨w0,w1,w2,c0,c1,c2,c3,-⟩:=id ar;have c7:Hid (f.heap.size<V3.heap.size):=bj;clear bj bu c5 c8;generalize f.heap.size=mb at *;go_wp2_with fail;refine am.mono ?_;rintro e w4 ⟨rfl,⟨j,y,⟨ae,g4,s4,C⟩,G⟩,q⟩;simp only at C G;have ba:=ar.kp q (λi hi=>by rw[T4 i hi];unfold CF;omega);have bv:Hid (Kp (λt=>t=3) T0 w w4):=⟨q.os.trans ag.out.os,q.tape.trans ag.out.tape,q.output.trans ag.out.output,BX ag.out.size q.size,λx hx hs=>(q.blk x (Cd hx ag.out.size) (by rw[TO x hx];have:=Y x hx;unfold CF;omega)).trans (ag.out.block x hx)⟩
  have bo:Hid (Ext T0 j w):=b4.trans ag.out.size y;have bt:=hid G;have t42:j (w.heap.size+2)=4:=by rw[y _ (by have:=ar.sz;omega)];exact T4 2 Zo
  have t43:j (w.heap.size+3)=4:=by rw[y _ (by have:=ar.sz;omega)];exact T4 3 Zo
  have cd:mb<w4.heap.size:=By C.box;have cf:w.heap.size+4<=mb:=by omega
  have bi:Hid (BK (λx=>(j x=0\/j x=2)/\w.heap.size<=x) w4 (qG g X.cz.length X.cz.length) X.cz):=au.out.keep Bw (Keeps.of_block λx hx hl=>q.blk x hl (by rw[Tc x hx.1 hx.2];unfold CF;omega)) λx hx=>⟨Or.inl (by rw[y x (by have:=c7.out;have:=hx.2;omega),Tc x hx.1 hx.2]),by have:=hx.1;omega⟩
  have TZ:Hid (∀x,x<w.heap.size->j x=0\/j x=3):=λx hx=>by rw[y x (Cd hx ag.out.size),TO x hx];exact Y x hx
  clear am w0 w1 w2 c0 c1 c2 c3 ar y q au TO T4 Tc Th Tm G b4 bc;have aj:=Bg w4 (qH v);have ak:=C.later aj;have bp:=hid (bi.out.later Bw aj);have an:=ba.later aj;have b8:=hid (bv.out.on aj);have bq:=hid (o.keep bt.out (.refl _ _) (Kp.of_below (S:=λ_=>False) aj) id id);have v0:(w4.alloc (qH v)).cell? (O w4.heap.size 0)=some (J v.k):=Bp _ _ _ _ rfl 0;have v1:(w4.alloc (qH v)).cell? (O w4.heap.size 1)=some (J v.n):=Bp _ _ _ _ rfl 1;have ce:=ba.sz;go_upto_region 10 with (fail);clear C ba aj;generalize c9:w4.heap.size=vb at *;generalize (w4.alloc (qH v))=V5 at *;by_cases he:er=0
  ·have bw:(er != 0)=false:=by simpa using he
   rw[if_neg (by simpa using he)] at ai;clear he;obtain⟨N,B,-⟩:=ak.heap.form;have m0:V5.cell? (O mb 0)=some (qG g X.cz.length X.cz.length):=ak.c0;have m1:=ak.c1;have m2:V5.cell? (O mb 2)=some (J X.ez):=ak.c2;have m4:=ak.c4;rw[B] at m1;have HQ:=hid λu0 u1 u2 v0 v1 v2 v3=>WiPost.fin o (r:=(⟨rm.heap,v,0,rm.sz_⟩,rm.st)) (P:=λx=>(j x=0\/j x=2)/\w.heap.size<=x) b8.out bo.out bq.out t42 t43 bp.out (ak.heap.heap.mono BB λx hx=>⟨Or.inr hx.2,Nat.le_of_not_lt λhl=>by have:=TZ.out x hl;rw[hx.2] at this;omega⟩) (λh=>by have:=h.1;rw[t42] at this;omega) (λh=>by have:=h.1;rw[t43] at this;omega) (λx hx=>⟨hx.2,by have:=hx.1;omega⟩) u0 u1 u2 v0 v1 v2 v3;rw[B] at HQ;obtain⟨w0,w1,w2,c0,c1,c2,c3,a0,a1,a2,af,b0,b1,b2,b3,bf,-⟩:=id an;have n1:¬ mb=w.heap.size+2:=by omega
   have n2:¬ mb=w.heap.size+3:=by omega
   have n3:¬ w.heap.size+2=mb:=by omega
   have n4:¬ w.heap.size+3=mb:=by omega
   have n5:¬ vb=w.heap.size+2:=by omega
   have n6:¬ vb=w.heap.size+3:=by omega
   have n7:¬ w.heap.size+2=vb:=by omega
   have n8:¬ w.heap.size+3=vb:=by omega
   clear ak an B;simp only[Nat.add_assoc,Nat.reduceAdd] at *;go_wp2
   go_region
   all_goals (
    go_wp2;rw[ai.out];refine Bt (v:=.tuple #[WV (qG g X.cz.length X.cz.length) (qG g4 rm.heap.length N) X.ez,Hh ⟨rm.heap,v,0,rm.sz_⟩]) ?_ rfl ((HQ.out _ _ _ _ _ _ _).drew o);simp[results,Tryz.results108,go_sem,a0,a1,a2,b0,b1,b2,b3])
  have bw:(er != 0)=true:=by simpa using he
  rw[if_pos (by simpa using he)] at ai;clear he;have m4:=ak.c4;have bb:=ao V5.drew b8.out.drew;have be:EeR w mb (qS ac X.cz.length cc) (qS ah X.heap.length ch) X.ez rm.sz_ V5.drew:=⟨an.w0,an.w1,an.w2,m4,by omega⟩
  have b5:=an.later (Br _ V5).drew;have bk:=hid b8.out.drew;have bx:Hid (Ext T0 (Dw j V5.drew 4) w):=bo.out.trans bk.out.size (EW j V5.drew 4);have br:Hid (L (Dw j V5.drew 4) V5.drew rm.st _):=o.keep bq.out (λx hx=>EW j V5.drew 4 x hx) (Kp.refl (λ_=>False) _ _).drew id id;have t62:Dw j V5.drew 4 (w.heap.size+2)=4:=by rw[EW j V5.drew 4 _ (by have:=b5.sz;omega)];exact t42
  have t63:Dw j V5.drew 4 (w.heap.size+3)=4:=by rw[EW j V5.drew 4 _ (by have:=b5.sz;omega)];exact t43
  have cb:w.heap.size+4<=V5.drew.heap.size:=b5.sz;clear ak an m4;simp only[Nat.add_assoc,Nat.reduceAdd] at *;go_wp2
  go_region_held3 (λw'=>w'.cell? (O w.heap.size 0)=some (qS ac X.cz.length cc)/\w'.cell? (O w.heap.size 1)=some (qS ah X.heap.length ch)/\w'.cell? (O w.heap.size 2)=some (J X.ez)/\w'.cell? (O mb 4)=some (J rm.sz_))
   (first | with_reducible exact be.al | with_reducible exact hY.al | with_reducible exact (((hY.set (Or.inl rfl) _ _).set (Or.inl rfl) _ _).set (Or.inl rfl) _ _).al | with_reducible exact (((((((hY.set (Or.inl rfl) _ _).set (Or.inl rfl) _ _).set (Or.inl rfl) _ _).set (Or.inr rfl) _ _).set (Or.inr rfl) _ _).set (Or.inr rfl) _ _).set (Or.inr rfl) _ _).al | with_reducible exact ((((hY.set (Or.inr rfl) _ _).set (Or.inr rfl) _ _).set (Or.inr rfl) _ _).set (Or.inr rfl) _ _).al)
   (first | (go_at_call 32;refine bb.mono ?_;rintro e w6 ⟨g',a8,ad,rfl,p,m,Q,l⟩;have hY:=be.later l;have HQ:=hid (λu0 u1 u2 v0 v1 v2 v3=>WiPost.fin o (r:=(⟨X.heap,BC,er,rm.sz_⟩,rm.st)) (P:=λb=>V5.drew.heap.size<=b) (bk.out.on l) bx.out (o.keep br.out (.refl _ _) (Kp.of_below (S:=λ_=>False) l) id id) t62 t63 (p.mono Bw λb h=>h.1) ((m.isHeap z).mono BB λb h=>BX Q h) Zo Zo (λx hx=>⟨by omega,by rw[Gr hx];omega⟩) u0 u1 u2 v0 v1 v2 v3);obtain⟨-,-,-,-,-,-,-,a0,a1,a2,af,b0,b1,b2,b3,bf,-⟩:=id (b5.later l);clear p m))
  all_goals (
   go_wp2;rw[ai.out];refine Bt (v:=.tuple #[WV (qG g' X.cz.length X.cz.length) (qG a8 X.heap.length X.heap.length) X.ez,Hh ⟨X.heap,BC,er,rm.sz_⟩]) ?_ rfl (HQ.out _ _ _ _ _ _ _);simp[results,Tryz.results108,go_sem,a0,a1,a2,b0,b1,b2,b3])
 have bs:(ws != 0)=true:=by simpa using hz
 rw[if_pos (by simpa using hz)] at ai;clear ay hz;go_wp2_with fail;refine (ao _ (Kp.of_below ax.out)).mono ?_;rintro e f ⟨g,gh,sh,rfl,p,m,a5,l⟩;have az:=ap.later l;have c6:=ap.sz;have HQ:=hid λu0 u1 u2 v0 v1 v2 v3=>WiPost.fin o (r:=(⟨X.heap,BC,ws,0⟩,st0)) (P:=λb=>F.heap.size<=b) (Kp.of_below (Bh ax.out l)) (EW T0 w 4) (o.keep hL (EW T0 w 4) (Kp.of_below (S:=λ_=>False) (Bh ax.out l)) id id) (Gr Zo) (Gr Zo) (p.mono Bw λb h=>h.1) ((m.isHeap z).mono BB λb h=>by omega) Zo Zo (λx hx=>⟨by omega,by rw[Gr Zo];omega⟩) u0 u1 u2 v0 v1 v2 v3;clear w0 w1 w2 c0 c1 c2 c3 p m ao;obtain⟨w0,w1,w2,c0,c1,c2,c3,a0,a1,a2,af,b0,b1,b2,b3,bf,-⟩:=id az;go_wp2;rw[ai.out];refine Bt (v:=.tuple #[WV (qG g X.cz.length X.cz.length) (qG gh X.heap.length X.heap.length) X.ez,Hh ⟨X.heap,BC,ws,0⟩]) ?_ rfl (HQ.out _ _ _ _ _ _ _);simp[results,Tryz.results108,go_sem,a0,a1,a2,b0,b1,b2,b3]
theorem xiI {P:Nat->Prop}(X:QW)(cv hv:Value)(w:qW)(f:BK P w cv X.cz)(c:BP P w hv X.heap):Calls Tryz.prog 32 #[WV cv hv X.ez] w λe w'=>∃g gh s,e=.returned (WV (qG g X.cz.length X.cz.length) (qG gh X.heap.length X.heap.length) X.ez)/\OwnC w' g X.cz s X.cz.length/\
  BP (λb=>s X.cz.length<=b/\b<w'.heap.size) w' (qG gh X.heap.length X.heap.length) X.heap/\w.heap.size<=g/\qY w w':=by
 obtain⟨-,-,-,-,-,a,-⟩:=id c;refine (xn9 X cv hv w f c).mono ?_;rintro e w' ⟨g,gh,s,rfl,d,⟨sh,k⟩,m,i,j⟩;have l:=k.heap a (T:=λb=>if gh<=b then 2 else 0) λb h _=>by rw[if_pos h]
 refine⟨g,gh,s,rfl,d,l.heap.mono BB λb h=>⟨?_,h.1⟩,i,j⟩;have c:=h.2;dsimp only at c;split at c
 ·omega
 cases c
section
variable {σ α:Type}
def Cnt (E:Env σ)(P:Nat->σ->Prop):Prop:=∀j st s c nm,P (j+1) st->P j (E.look st s c nm).1
def StInv (P:Nat->σ->Prop)(k:Int)(m:Mc σ)(r:Mc σ × α × Int):Prop:=∃q:Nat,(∀j,P (j+q) m.st->P j r.1.st)/\(r.2.2=0->(q:Int)+k+m.sz_<=r.1.sz_)/\(q:Int)+k+m.sz_<=r.1.sz_+1
theorem StInv.of {P:Nat->σ->Prop}{m:Mc σ}{r:Mc σ × α × Int}(a:r.1.st=m.st)(b:m.sz_<=r.1.sz_):StInv P 0 m r:=⟨0,λ_ h=>by rw[a];exact h,λ_=>by omega,by omega⟩
theorem xkj (m:Mc σ)(f:Fr)(a b:Int):(Cr m f a b).1.st=m.st/\(Cr m f a b).1.sz_=m.sz_:=by
 unfold Cr;by_cases h:b<=a
 ·simp only[h,if_true];split<;>exact⟨rfl,rfl⟩
 ·simp only[h,if_false];split<;>exact⟨rfl,rfl⟩
theorem xlz (E:Env σ)(d:Nat)(m:Mc σ):(BY E d m).1.st=m.st/\m.sz_<=(BY E d m).1.sz_/\((BY E d m).2=0->(BY E d m).1.sz_=m.sz_+1):=by
 unfold BY;split
 ·exact⟨rfl,by simp,λh=>by cases h⟩
 split
 ·exact⟨rfl,by simp,λh=>by cases h⟩
 exact⟨rfl,by simp;omega,λ_=>rfl⟩
def xlW (P:Nat->σ->Prop)(ent:CC σ):Prop:=∀m c n s a,StInv P 1 m (ent m c n s a)
theorem xpP {P:Nat->σ->Prop}{E:Env σ}(s:Cnt E P){ent:CC σ}(t:xlW P ent)(d:Nat)(m:Mc σ)(f:Fr)(a:Int)(x:QI):StInv P 0 m (BD ent E d m f a x):=by
 have self:∀(g:Fr) (e:Int),StInv P 0 m (m,g,e):=λg e=>.of rfl (Int.le_refl _);unfold BD;split
 ·exact self _ _
 split
 ·exact self _ _
 split
 ·exact self _ _
 split
 ·exact self _ _
 split
 ·exact .of rfl (Int.le_refl _)
 split
 ·unfold DT;split
  ·exact self _ _
  exact .of rfl (Int.le_refl _)
 split
 ·unfold Dv;simp only;generalize Dq f.stack x.a=k;have o:=λj=>s j m.st (f.site a x) (Ch m.heap (CL (f.stack.take k) 0)) x.name;generalize E.look m.st (f.site a x) (Ch m.heap (CL (f.stack.take k) 0)) x.name=l at o ⊢;obtain⟨q,c,i,n⟩:=t { m with st:=l.1 } l.2.1 l.2.2 (CL (f.stack.take k) 0) (f.stack.drop k);generalize ent { m with st:=l.1 } l.2.1 l.2.2 (CL (f.stack.take k) 0) (f.stack.drop k)=r at c i n ⊢;simp only at c i n;have b:∀j,P (j+(q+1)) m.st->P j r.1.st:=λj h=>c j (o _ h);split
  ·exact⟨q+1,b,λh=>absurd h (by assumption),by simp only;omega⟩
  rename_i p;have u:=i (by simpa using p);exact⟨q+1,b,λ_=>by simp only;omega,by simp only;omega⟩
 split
 ·have:=xkj m f a x.a;exact .of this.1 (by rw[this.2];exact Int.le_refl _)
 split
 ·unfold Dt;split
  ·exact self _ _
  split
  ·have:=xkj m f.pop a x.a;exact .of this.1 (by rw[this.2];exact Int.le_refl _)
  exact self _ _
 unfold DB;split
 ·exact self _ _
 split
 ·exact self _ _
 split
 ·exact self _ _
 split
 ·exact .of rfl (Int.le_refl _)
 split
 ·have:=xlz E d m;exact .of this.1 this.2.1
 exact self _ _
theorem xni {P:Nat->σ->Prop}{E:Env σ}(b:Cnt E P){ent:CC σ}(c:xlW P ent)(d:Nat):∀(g:Nat) (m:Mc σ) (f:Fr),StInv P 0 m (CX ent E d g m f)
 | 0,m,f=>.of rfl (Int.le_refl _)
 | g+1,m,f=>by
  unfold CX;generalize (if f.pc<0 then none else f.code[f.pc.toNat]?)=q
  cases q with
  | none=>exact .of rfl (Int.le_refl _)
  | some x=>
   simp only[];by_cases h17:x.op=17
   ·rw[if_pos h17];exact .of rfl (Int.le_refl _)
   rw[if_neg h17];have a:=xpP b c d m { f with pc:=f.pc+1 } f.pc x;generalize BD ent E d m { f with pc:=f.pc+1 } f.pc x=r at a ⊢;by_cases h0:r.2.2=0
   ·rw[if_neg (by simpa using h0)];obtain⟨q1,i1,i2,-⟩:=a;obtain⟨q2,j1,j2,j3⟩:=xni b c d g r.1 r.2.1;have i3:=i2 h0;exact⟨q2+q1,λj h=>j1 j (i1 _ (by rw[Nat.add_assoc];exact h)),λh=>by have:=j2 h;omega,by omega⟩
   rw[if_pos h0];obtain⟨q1,i1,-,i2⟩:=a;exact⟨q1,i1,λh=>absurd h h0,i2⟩
theorem xjc {P:Nat->σ->Prop}{E:Env σ}(d:Nat){b:Mc σ->Fr->Mc σ × QV × Int}(g:∀m f,StInv P 0 m (b m f)):xlW P (El E d b):=λm c n s a=>by
 have self:∀(v:QV) (e:Int),e≠0->StInv P 1 m (m,v,e):=λv e i=>⟨0,λ_ h=>h,λh=>absurd h i,by simp only;omega⟩
 unfold El
 cases Cp E.cz c n with
 | none=>exact self _ _ (by omega)
 | some mt=>
  simp only;split
  ·exact self _ _ (by omega)
  split
  ·split
   ·exact self _ _ (by omega)
   exact⟨0,λ_ h=>h,λ_=>by simp only;omega,by simp only;omega⟩
  obtain⟨c1,c2,c3⟩:=xlz E d m;split
  ·rename_i h;exact self _ _ h
  rename_i h;have c4:=c3 (by simpa using h);obtain⟨q,j1,j2,j3⟩:=g (BY E d m).1 (CW E c n mt s a);rw[c1] at j1;exact⟨q,j1,λh=>by have:=j2 h;omega,by omega⟩
theorem xof {P:Nat->σ->Prop}{E:Env σ}(a:Cnt E P):∀d,xlW P (BL E d)
 | 0=>xjc 0 λm f=>.of rfl (Int.le_refl _)
 | d+1=>xjc (d+1) λm f=>xni a (xof a d) d _ m f
end
theorem xoR:(Tryz.prog.info? 111).map (λi=>(i.zero,i.size,i.bytes))=some (some (.agg #[J 0,qZ ⟨#[]⟩,J 0,qN]),4,56):=by kernel_rfl
theorem xjL (n:Nat)(a:n*56<=281474976710656):Lz 28 111 #[J 0,qZ ⟨#[]⟩,J 0,qN] 4 n:=λw=>xgb Tryz.underlying28 xoR (by omega) n a rfl w
structure OwnT (w:qW)(B:Nat)(xs:List QT)(j:Nat)(gs:Nat->Nat):Prop where
 row:∃cur:Array Value,w.heap[B]?=some (.cells cur 111 (0,0))/\cur.size=xs.length*4
 rise:∀i k,i<k->k<j->gs i<gs k
 reach:∀i,i<j->B<gs i/\gs i<w.heap.size
 lz:∀i x,i<j->xs[i]?=some x->OwnSt FG 2 147 w (gs i) x.lz x.lz.length
 cells:∀i x,i<j->xs[i]?=some x->w.cell? (O B (i*4+0))=some (J x.site.cls)/\w.cell? (O B (i*4+1))=some (qZ x.site.name)/\w.cell? (O B (i*4+2))=some (J x.site.at')/\w.cell? (O B (i*4+3))=some (qS (some (O (gs i) 0)) x.lz.length x.lz.length)
theorem OwnT.later {w w':qW}{B:Nat}{xs:List QT}{j:Nat}{gs:Nat->Nat}(h:OwnT w B xs j gs)(a:qY w w'):OwnT w' B xs j gs where
 row:=by
  obtain⟨cur,c,d⟩:=h.row;exact⟨cur,by rw[a.block _ (By c)];exact c,d⟩
 rise:=h.rise
 reach:=λi b=>⟨(h.reach i b).1,Cd (h.reach i b).2 a.size⟩
 lz:=λi x b e=>(h.lz i x b e).later Db a
 cells:=λi x b e=>by
  obtain⟨f,c,d,g⟩:=h.cells i x b e;exact⟨Bf a f,Bf a c,Bf a d,Bf a g⟩
theorem OwnT.start (w:qW)(xs:List QT)(c:Array Value)(a:c.size=xs.length*4):OwnT (w.alloc (.cells c 111)) w.heap.size xs 0 (λ_=>0):=
 ⟨⟨c,BH w _,a⟩,λ_ _ _ h=>by omega,λ_ h=>by omega,λ_ _ h=>by omega,λ_ _ h=>by omega⟩
theorem OwnSt.ofBlock {α:Type}{E:CT α}{sz:Nat}(G:Good E sz){t:TypeId}{w w':qW}{B:Nat}{xs:List α}{j:Nat}(h:OwnSt E sz t w B xs j)(m:w.heap.size<=w'.heap.size)(d:∀b,B<=b->b<w.heap.size->w'.heap[b]?=w.heap[b]?):OwnSt E sz t w' B xs j:=by
 obtain⟨⟨cur,a,c⟩,l⟩:=h;have e:=By a;refine⟨⟨cur,by rw[d _ (Bq _) e];exact a,c⟩,λi x f g=>?_⟩;refine G.move (l i x f g) (λb h=>⟨h.1,by omega⟩) (.of_block λb a c=>d b (by omega) c) λk n v hv=>?_;unfold World.cell? at hv ⊢;rw[d _ (Bq _) e];exact hv
theorem OwnT.step {w:qW}{B:Nat}{xs:List QT}{j:Nat}{gs:Nat->Nat}{x:QT}{g:Nat}(h:OwnT w B xs j gs)(r:xs[j]?=some x)(C:∀i,i<j->gs i<g)(v:B<g)(c:g<w.heap.size)(t:OwnSt FG 2 147 w g x.lz x.lz.length) :
  OwnT (w.setCells B (j*4) [J x.site.cls,qZ x.site.name,J x.site.at',qG g x.lz.length x.lz.length]) B xs (j+1) (λi=>if i=j then g else gs i):=by
 have F:=Bz r;obtain⟨cur,s,z⟩:=h.row;have m:=Ks (B:=B) [J x.site.cls,qZ x.site.name,J x.site.at',qG g x.lz.length x.lz.length] (j*4) w;have e:=λk (n:k<4)=>World.cell?_setCells_in B [J x.site.cls,qZ x.site.name,J x.site.at',qG g x.lz.length x.lz.length] (j*4) w (λq u=>by rw[Bn s];simp at u;simp;omega) k (by simpa using n);have l:∀b,b≠B->(w.setCells B (j*4) [J x.site.cls,qZ x.site.name,J x.site.at',qG g x.lz.length x.lz.length]).heap[b]?=w.heap[b]?:=λb p=>Er p _ _ _
 have d:∀i k,i<j->k<4->(w.setCells B (j*4) [J x.site.cls,qZ x.site.name,J x.site.at',qG g x.lz.length x.lz.length]).cell? (O B (i*4+k))=w.cell? (O B (i*4+k)):=λi k o n=>by
  rw[World.cell?_setCells_out B _ (j*4) w _ (λ_ _=>Or.inl ?_)];simp;omega
 constructor
 ·exact NF _ _ w ⟨cur,s,z⟩
 ·intro i k a n;by_cases hkj:k=j
  ·simp only[hkj,if_true];rw[if_neg Zo];exact C i Zo
  rw[if_neg hkj,if_neg Zo];exact h.rise i k a Zo
 ·intro i o;rw[m];by_cases hij:i=j
  ·simp only[hij,if_true];exact⟨v,c⟩
  rw[if_neg hij];exact h.reach i Zo
 ·intro i y o f;by_cases hij:i=j
  ·subst hij;rw[r] at f;cases f;simp only[if_true];exact t.ofBlock Db (by rw[m];exact Bq _) λb p _=>l b Zo
  rw[if_neg hij];have D:=(h.reach i Zo).1;exact (h.lz i y Zo f).ofBlock Db (by rw[m];exact Bq _) λb p _=>l b Zo
 intro i y o f;by_cases hij:i=j
 ·subst hij;rw[r] at f;cases f;simp only[if_true];exact⟨e 0 Zo,e 1 Zo,e 2 Zo,e 3 Zo⟩
 rw[if_neg hij,d i 0 Zo Zo,d i 1 Zo Zo,d i 2 Zo Zo,d i 3 Zo Zo];exact h.cells i y Zo f
theorem OwnSt.isLines {w:qW}{g:Nat}{ls:List QL}(h:OwnSt FG 2 147 w g ls ls.length)(c:ls.length<=maxLen){P:Nat->Prop}(b:P g):Fw P w (qG g ls.length ls.length) ls:=by
 obtain⟨⟨cur,e,f⟩,d⟩:=h;refine⟨_,_,rfl,Bq _,c,by simp,λi x a=>⟨g,0,rfl,b,?_⟩⟩;have:=d i x (Bz a) a;simp only[Nat.zero_add];exact this
theorem OwnT.tallies {w:qW}{B:Nat}{xs:List QT}{gs:Nat->Nat}(h:OwnT w B xs xs.length gs)(j:xs.length<=maxLen)(g:∀x∈xs,x.lz.length<=maxLen){P:Nat->Prop}(d:∀b,B<=b->b<w.heap.size->P b):Ep P w (qG B xs.length xs.length) xs:=by
 obtain⟨cur,e,k⟩:=h.row;refine⟨_,_,rfl,Bq _,j,by simp,λi x a=>⟨B,0,rfl,d _ (Bq _) (By e),?_⟩⟩;have c:=Bz a;obtain⟨c0,c1,c2,c3⟩:=h.cells i x c a;have f:=h.reach i c;simp only[Nat.zero_add];exact⟨c0,c1,c2,_,c3,(h.lz i x c a).isLines (g x (List.mem_of_getElem? a)) (d _ (by omega) f.2)⟩
structure BoxT (w:qW)(b:Nat)(x:QT)(lv:Value):Prop where
 c0:w.cell? (O b 0)=some (J x.site.cls)
 c1:w.cell? (O b 1)=some (qZ x.site.name)
 c2:w.cell? (O b 2)=some (J x.site.at')
 c3:w.cell? (O b 3)=some lv
theorem BoxT.later {w w':qW}{b:Nat}{x:QT}{lv:Value}(h:BoxT w b x lv)(a:qY w w'):BoxT w' b x lv:=⟨Bf a h.c0,Bf a h.c1,Bf a h.c2,Bf a h.c3⟩
theorem BoxT.set {w:qW}{b:Nat}{x:QT}{lv:Value}(h:BoxT w b x lv){a:Addr}(d:b≠a.block)(u:Value):BoxT (w.setCell a u) b x lv:=by
 have c:∀k,a≠((O b k):Addr):=λk e=>d (by rw[e]);exact⟨by rw[DX _ _ _ _ (c 0)];exact h.c0,by rw[DX _ _ _ _ (c 1)];exact h.c1,by rw[DX _ _ _ _ (c 2)];exact h.c2,by rw[DX _ _ _ _ (c 3)];exact h.c3⟩
theorem BoxT.all {w:qW}{b:Nat}{x:QT}{lv:Value}(h:BoxT w b x lv):w.cell? (O b 0)=some (J x.site.cls)/\w.cell? (O b 1)=some (qZ x.site.name)/\w.cell? (O b 2)=some (J x.site.at')/\w.cell? (O b 3)=some lv:=⟨h.c0,h.c1,h.c2,h.c3⟩
theorem xpf (w:qW)(x:QT)(lv:Value)(t:TypeId):BoxT (w.alloc (qC #[J x.site.cls,qZ x.site.name,J x.site.at',lv] t)) w.heap.size x lv:=⟨by rw[Bp _ _ _ _ rfl];rfl,by rw[Bp _ _ _ _ rfl];rfl,by rw[Bp _ _ _ _ rfl];rfl,by rw[Bp _ _ _ _ rfl];rfl⟩
theorem xg4 {P:Nat->Prop}(xs:List QT)(v:Value)(w:qW)(Y:Ep P w v xs)(u:xs.length*56<=281474976710656)(t:∀x∈xs,x.lz.length*16<=281474976710656):Calls Tryz.prog 34 #[v] w λe w'=>∃g gs,e=.returned (qG g xs.length xs.length)/\OwnT w' g xs xs.length gs/\w.heap.size<=g/\qY w w':=by
 obtain⟨ad,cap,rfl,hl,y,-,m⟩:=Y;have Q:=xjL xs.length u;go_enter Tryz.func34,Tryz.ntmps34;go_wp2
 go_loopg [11] xs.length (λg c wr=>∃(j:Nat) (gs:Nat->Nat),j+g=xs.length/\c=J j/\qY w wr/\OwnT wr w.heap.size xs j gs/\w.heap.size<wr.heap.size)
 case atStart=>exact⟨0,_,by omega,rfl,Bg _ _,OwnT.start _ _ _ (size_madeCells _ _),by simp⟩
 case round=>
  obtain⟨j,gs,hj,rfl,a,k,hz⟩:=hrel;clear Q;by_cases hlt:j<xs.length
  ·obtain⟨b,o,rfl,-,n,s,p,sv,q,r⟩:=m j xs[j] (by simp[hlt]);have N:Hid (xs[j]?=some xs[j]):=by show _=_;simp[hlt]
   have R:=t xs[j] (by simp);generalize xs[j]=x at *;simp only[Nat.add_zero] at n;have u0:=Bf a n;have u1:=Bf a s;have u2:=Bf a p;have u3:=Bf a q;have C:=r.later Db a;obtain⟨f,d,rfl,-,-,-,-⟩:=id C;clear n s p q r m;have W:(j:Int)<(xs.length:Int):=by omega
   have X:(0:Int)<=(j:Int):=by omega
   go_wp2;have S:=(xpf wr x (qS f x.lz.length d) 111);have G:=Bg wr (qC #[J x.site.cls,qZ x.site.name,J x.site.at',qS f x.lz.length d] 111);have T:=C.later Db G;have K:=k.later G;have H:=a.trans (G.mono (by omega));have V:(wr.alloc (qC #[J x.site.cls,qZ x.site.name,J x.site.at',qS f x.lz.length d] 111)).heap.size=wr.heap.size+1:=by simp
   have D:=k.reach;clear C k u0 u1 u2 u3;generalize (wr.alloc (qC #[J x.site.cls,qZ x.site.name,J x.site.at',qS f x.lz.length d] 111))=W1 at *;generalize wr.heap.size=B1 at *;have B:=S.later (Br _ W1).drew;have c0:=B.c0;have c1:=B.c1;have c2:=B.c2;have c3:=B.c3;have L:=T.later Db (Br _ W1).drew;have M:=K.later (Br _ W1).drew
   go_region_held3 (λw'=>w'.cell? (O B1 0)=some (J x.site.cls)/\w'.cell? (O B1 1)=some (qZ x.site.name)/\w'.cell? (O B1 2)=some (J x.site.at')/\w'.cell? (O B1 3)=some (qS f x.lz.length d))
    (first | exact B.all | exact d1.all | exact ((((d1.set (by simp;omega) _).set (by simp;omega) _).set (by simp;omega) _).set (by simp;omega) _).all)
    (first | (go_at_call 51;refine (xiz x.lz _ _ L R).mono ?_;rintro e w1 ⟨g,rfl,l,hg,h⟩;have F:=M.later h;obtain⟨cur,k1,k2⟩:=id F.row;have f1:∀o,w1.frozen? (O w.heap.size o)=false:=λo=>(by simp[World.frozen?,k1]);have d1:=B.later h;have e0:w1.cell? (O w.heap.size (j*4))=some (cur[j*4]'(by omega)):=(by rw[Bn k1];simp);have e1:w1.cell? (O w.heap.size (j*4+1))=some (cur[j*4+1]'(by omega)):=(by rw[Bn k1];simp);have e2:w1.cell? (O w.heap.size (j*4+2))=some (cur[j*4+2]'(by omega)):=(by rw[Bn k1];simp);have e3:w1.cell? (O w.heap.size (j*4+3))=some (cur[j*4+3]'(by omega)):=(by rw[Bn k1];simp)))
   go_wp2;go_roundg (gk-1)
   case measure=>omega
   case rel=>
    have U:w.heap.size<w1.heap.size:=Cd (by simp;omega) h.size;have Z:W1.heap.size<=g:=by simpa using hg
    refine⟨j+1,(λi=>if i=j then g else gs i),by omega,by go_num,((((H.drew.trans (h.mono (by simp;omega))).setCell (Bq _) _).setCell (Bq _) _).setCell (Bq _) _).setCell (Bq _) _,?_,by simp;omega⟩;refine F.step N.out (g:=g) ?_ ?_ ?_ l
    ·intro i hi;have:=(D i hi).2;omega
    ·omega
    obtain⟨z,q1,-⟩:=l.1;exact By q1
  obtain rfl:j=xs.length:=by omega
  go_wp2;go_ret;exact⟨_,_,rfl,k,Bq _,a⟩
section
variable {α:Type} {E:CT α} {sz:Nat} {P P' R:Nat->Prop} {w:World} {ops:Array Oper} {rest:List Oper} {o:Oper} {a:Act} {Q:Exit->Act->World->Prop}
theorem Qr (G:Good E sz)(H:o.guard=none)(s x:Operand)(T:TypeId)(ho:o.op=.call { callee:=.builtin .append,args:=#[s,x],argTypes:=#[T,T] })
  (e:TypeId) (z:Value) (bytes:Nat) (hu:Tryz.prog.underlying T=some (.slice e)) (hI:(Tryz.prog.info? e).map (λi=>(i.zero,i.size,i.bytes))=some (some z,sz,bytes)) (hz:z.cells.size=sz)
  (xs:List α) (ao:Option Addr) (hs:a.eval s=qS ao xs.length xs.length) (q:IsRow E sz 0 P w (qS ao xs.length xs.length) xs)
  (B:Nat) (t:TypeId) (vs:List Value) (hx:a.eval x=qG B 1 1) (hB:w.heap[B]?=some (.cells vs.toArray t (0,0))) (p:vs.length=sz) (y:α) (hy:E P' w (λk=>vs[k]?) y)
  (r:ao=none->xs=[]) (K:xs.length+1<=maxLen) (M:(xs.length+1)*bytes<=140737488355328) (D:∀b,P b->R b) (n:∀b,P' b->R b)
  (h:∀g cap w',(∀(S:Nat->Prop),(∀b,R b->S b)->S g->IsRow E sz 0 S w' (qG g (xs.length+1) cap) (xs++[y]))->w.heap.size<=g->g<w'.heap.size->qY w w'->(∃cur:Array Value,w'.heap[g]?=some (.cells cur e (0,0))/\cur.size=cap*sz/\xs.length+1<=cap/\cap<=maxLen/\Cells E sz R w' (cur.toList.take ((xs.length+1)*sz)) (xs++[y])/\∀k v,vs[k]?=some v->w'.cell? (O g (xs.length*sz+k))=some v)->wpList Tryz.prog ops Q rest (a.put o.dst (qG g (xs.length+1) cap)) w'):wpList Tryz.prog ops Q (o :: rest) a w:=by
 obtain⟨i0,hi,F,C,L⟩:=Gb hI;obtain⟨ad,U,e0,hl,V,-,hr⟩:=q;simp only[Value.slice.injEq] at e0;obtain⟨rfl,-,-⟩:=e0;obtain⟨cs,c,d⟩:=hr.cells G;have hp:=G.pos;refine wpList_append_grows w H s x T ho e i0 z sz bytes hu hi F C L hz hp ao xs.length xs.length cs hs (λhn=>by rw[r hn];simp) c.1 (λb hb j u Z=>by obtain⟨a',e',h'⟩:=d j u Z;rw[hb] at e';cases e';exact h') (O B 0) 1 1 vs hx (by simpa using p) (λj u Z=>by exact World.news_of_block hB j u (by simpa using Z)) ?_ (by omega) K M ?_
 ·intro u hu;obtain⟨j,Z,rfl⟩:=List.mem_iff_getElem.1 hu;obtain⟨v,hv,f⟩:=G.there hy j (by omega);simp only[List.getElem?_eq_getElem Z] at hv
  cases hv;exact f
 intro v' w' m N;have X:qY w w':=(Br _ _).grown N (Bq _) (λk hk=>by cases hk);obtain⟨W,⟨rfl,h0⟩ | ⟨g,cap,cur,rfl,h1,h2,h3,h4,h5,h6⟩⟩:=id m
 ·omega
 have hC:Cells E sz R w' (cs++vs) (xs++[y]):=by
  refine Cells.append (Cells.keep c G (.of_below X) D) G (Cells.one G p ?_);exact G.move hy n (.of_below X) λ_ _ _ h=>h
 refine h g cap w' (λS hS hg=>?_) h1 (By h2) X ⟨cur,h2,h5,h3,h4,by rw[h6];exact hC,λk v hk=>?_⟩
 rotate_left
 ·have a0:=Bz hk;rw[Bn h2];have Y:=congrArg (λl=>l[xs.length*sz+k]?) h6;simp only[List.getElem?_take] at Y;rw[if_pos (by rw[Nat.add_mul];omega),List.getElem?_append_right (by rw[c.1];omega),c.1,Nat.add_sub_cancel_left,hk] at Y;simpa using Y
 have:=(hC.keep G (.refl _ _) hS).row G (g:=g) (cap:=cap) (bytes:=0) hg h2 (by simpa using h6) (by simpa using h3) h4 (by simp);simpa using this
end
def GP:List QL->Int->List QL
 | [],c=>[⟨c,1⟩]
 | x :: r,c=>if x.cls == c then ⟨x.cls,wrap64 (x.found+1)⟩ :: r else x :: GP r c
theorem xf4:∀ {ls:List QL} {c:Int},CB (λx=>x.cls == c) ls=-1->GP ls c=ls++[⟨c,1⟩]
 | [],c,_=>rfl
 | x :: r,c,h=>by
  have a:(x.cls == c)=false:=by
   cases d:x.cls == c with
   | false=>rfl
   | true=>rw[Kq (j:=0) (x:=x) rfl d (λi y f _=>by omega)] at h;simp at h
  have e:CB (λx:QL=>x.cls == c) r=-1:=by
   unfold CB at h ⊢;rw[List.findIdx?_cons,a] at h
   cases b:r.findIdx? (λx=>x.cls == c) with
   | none=>rfl
   | some k=>rw[b] at h;simp at h;omega
  simp[GP,a,xf4 e]
theorem xh9:∀ {ls:List QL} {c:Int} {j:Nat} {x:QL},ls[j]?=some x->(x.cls == c)=true->(∀i y,i<j->ls[i]?=some y->(y.cls == c)=false)->GP ls c=ls.set j ⟨x.cls,wrap64 (x.found+1)⟩
 | [],c,j,x,h,_,_=>by simp at h
 | y :: r,c,0,x,h,hp,_=>by
  simp at h;subst h;simp[GP,hp]
 | y :: r,c,j+1,x,h,hp,hn=>by
  have a:=hn 0 y (by omega) rfl;simp only[GP,a,List.set_cons_succ];rw[xh9 (ls:=r) (j:=j) (x:=x) (by simpa using h) hp (λi z d b=>hn (i+1) z (by omega) (by simpa using b))];rfl
theorem MT {α:Type}(p:α->Bool)(xs:List α):CB p xs=-1\/∃(j:Nat) (x:α),CB p xs=(j:Int)/\xs[j]?=some x/\p x=true/\∀i y,i<j->xs[i]?=some y->p y=false:=by
 unfold CB
 cases h:xs.findIdx? p with
 | none=>left;rfl
 | some j=>
  right;rw[List.findIdx?_eq_some_iff_getElem] at h;obtain⟨c,b,e⟩:=h;refine⟨j,xs[j],rfl,by simp[c],b,λi y d a=>?_⟩;have:=e i d;rw[List.getElem?_eq_getElem (by omega)] at a
  cases a;simpa using this
theorem OwnSt.one {w:qW}{g:Nat}{ls:List QL}(h:OwnSt FG 2 147 w g ls ls.length){j:Nat}{x:QL}(a:ls[j]?=some x):w.cell? (O g (j*2+0))=some (J x.cls)/\w.cell? (O g (j*2+1))=some (J x.found):=h.2 j x (Bz a) a
theorem OwnSt.unfrozen {w:qW}{g:Nat}{α:Type}{E:CT α}{sz:Nat}{t:TypeId}{ls:List α}{j:Nat}(h:OwnSt E sz t w g ls j):∀o,w.frozen? (O g o)=false:=λo=>by
 obtain⟨⟨cur,a,-⟩,-⟩:=h;simp[World.frozen?,a]
theorem OwnSt.bump {w:qW}{g:Nat}{ls:List QL}(h:OwnSt FG 2 147 w g ls ls.length){j:Nat}{x:QL}(k:ls[j]?=some x)(n:Int):OwnSt FG 2 147 (w.setCell (O g (j*2+1)) (J n)) g (ls.set j ⟨x.cls,n⟩) ls.length:=by
 obtain⟨⟨cur,m,p⟩,d⟩:=h;have f:=Bz k;refine⟨⟨_,BW m _,by simpa using p⟩,λi y l c=>?_⟩;have b:(w.setCell (O g (j*2+1)) (J n)).cell? (O g (j*2+1))=some (J n):=Kw (v:=J x.found) (d j x f k).2 _;have a:∀o,o≠j*2+1->(w.setCell (O g (j*2+1)) (J n)).cell? (O g o)=w.cell? (O g o):=λo q=>DX _ _ _ _ (by intro e;injection e with _ e2 _;omega);by_cases hij:i=j
 ·subst hij;rw[List.getElem?_set_self f] at c
  cases c;exact⟨by show World.cell? _ (O g (i*2+0))=_;rw[a _ (by omega)];exact (d i x f k).1,b⟩
 rw[List.getElem?_set_ne (by omega)] at c;exact⟨by show World.cell? _ (O g (i*2+0))=_;rw[a _ (by omega)];exact (d i y l c).1,by show World.cell? _ (O g (i*2+1))=_;rw[a _ (by omega)];exact (d i y l c).2⟩
def OneLeft (w:qW)(g:Option Nat)(ls:List QL)(e:Ending)(w':qW):Prop:=
 ∃g' cap',e=.returned (qG g' ls.length cap')/\Fw (λb=>b=g') w' (qG g' ls.length cap') ls/\(some g'=g\/w.heap.size<=g')/\g'<w'.heap.size/\(∀b,b<w.heap.size->some b≠g->w'.heap[b]?=w.heap[b]?)/\w'.os=w.os/\w'.tape=w.tape/\w'.output=w.output/\w.heap.size<=w'.heap.size
theorem xk8 (ls:List QL)(g:Nat)(c:Int)(w:qW)(h:OwnSt FG 2 147 w g ls ls.length)(u:(ls.length+1)*16<=140737488355328):Calls Tryz.prog 197 #[qG g ls.length ls.length,J c] w λe w'=>OneLeft w (some g) (GP ls c) e w':=by
 have F:=Gm;have s:ls.length<=maxLen:=by unfold maxLen;omega
 have K:g<w.heap.size:=by obtain⟨⟨cur,r,-⟩,-⟩:=h;exact By r
 rcases MT (λx:QL=>x.cls == c) ls with hf | ⟨j,x,hf,hx,hp,hn⟩
 ·have C:Hid (GP ls c=ls++[⟨c,1⟩]):=xf4 hf;have q:=Bg w (qC #[J c] 3);have r:=h.later Db q;have p:=r.isLines s (P:=λb=>b=g) rfl;have o:(w.alloc (qC #[J c] 3)).cell? (O w.heap.size 0)=some (J c):=by rw[Bp _ _ _ _ rfl];rfl
  go_enter Tryz.func197,Tryz.ntmps197;go_wp2_with fail;refine (xeL _ (λx=>x.cls == c) ls _ _ p λx w' t=>xea x _ c w' (Bf t o)).mono ?_;rintro e w1 ⟨rfl,a⟩;rw[hf];have v:=r.later Db a;have z:=v.isLines s (P:=λb=>b=g) rfl;have B:=Bf a o;have m:qY w w1:=EB (Br _ _) a;clear a q r p o F;go_wp2_with (at_builtin;refine Qr (R:=λb=>b=g) Db rfl (.tmp 11) (.tmp 14) 106 rfl 147 _ 16 Tryz.underlying106 xiB rfl ls _ rfl (z.later Db (Bg _ _)) _ 147 [J c,J 1] rfl (BH _ _) rfl ⟨c,1⟩ (P':=λb=>b=g) ⟨rfl,rfl⟩ (λh=>by cases h) (by unfold maxLen;omega) u (λ_ h=>h) (λ_ h=>h) ?_;intro g' cap' w2 k l f i d);go_ret;have n:qY w w2:=EB m i;rw[C.out];refine⟨g',cap',by simp,?_,Or.inr ?_,f,λb u _=>n.block b u,n.os,n.tape,n.output,n.size⟩
  ·obtain⟨cur,q1,q2,q3,q4,q5,-⟩:=d;have:=Cells.row (E:=FG) (sz:=2) (bytes:=0) (P:=λb=>b=g') (xs:=ls++[⟨c,1⟩]) (g:=g') (cap:=cap') ⟨q5.1,q5.2⟩ Db rfl q1 (by simp) (by simpa using q3) q4 (by simp);simpa using this
  have:=m.size;simp at l;omega
 have C:Hid (GP ls c=ls.set j ⟨x.cls,wrap64 (x.found+1)⟩):=xh9 hx hp hn;have M:=Bz hx;have H:(0:Int)<=(j:Int):=by omega
 have G:(j:Int)<(ls.length:Int):=by omega
 have D:Hid (ls[j]?=some x):=hx;have q:=Bg w (qC #[J c] 3);have r:=h.later Db q;have p:=r.isLines s (P:=λb=>b=g) rfl;have o:(w.alloc (qC #[J c] 3)).cell? (O w.heap.size 0)=some (J c):=by rw[Bp _ _ _ _ rfl];rfl
 go_enter Tryz.func197,Tryz.ntmps197;go_wp2_with fail;refine (xeL _ (λx=>x.cls == c) ls _ _ p λx w' t=>xea x _ c w' (Bf t o)).mono ?_;rintro e w1 ⟨rfl,a⟩;rw[hf];have v:=r.later Db a;have B:=Bf a o;have m:qY w w1:=EB (Br _ _) a;obtain⟨k0,k1⟩:=v.one D.out;have fz:=v.unfrozen;clear a q r p o F hn hx hf;go_wp2_with fail;go_ret;rw[C.out];have L:=v.bump D.out (wrap64 (x.found+1));refine⟨g,ls.length,by simp,?_,Or.inl rfl,by simp;have:=m.size;omega,λb u y=>?_,?_,?_,?_,?_⟩
 ·have:=OwnSt.isLines (ls:=ls.set j ⟨x.cls,wrap64 (x.found+1)⟩) (by simpa using L) (by simpa using s) (P:=λb=>b=g) rfl;simpa using this
 ·rw[BS (by intro e;exact y (by rw[e]))];exact m.block b u
 ·exact m.os
 ·exact m.tape
 ·exact m.output
 simpa using m.size
theorem xlk (c:Int)(w:qW):Calls Tryz.prog 197 #[qN,J c] w λe w'=>OneLeft w none [⟨c,1⟩] e w':=by
 have u:=Gm;have q:=Bg w (qC #[J c] 3);have p:Fw (λ_=>False) (w.alloc (qC #[J c] 3)) (qN) []:=⟨none,0,rfl,by simp,by simp,by simp,λi x y=>by simp at y⟩
 have o:(w.alloc (qC #[J c] 3)).cell? (O w.heap.size 0)=some (J c):=by rw[Bp _ _ _ _ rfl];rfl
 have t:CB (λx:QL=>x.cls == c) []=-1:=rfl;go_enter Tryz.func197,Tryz.ntmps197;go_wp2_with fail;refine (xeL _ (λx=>x.cls == c) [] _ _ p λx w' s=>xea x _ c w' (Bf s o)).mono ?_;rintro e w1 ⟨rfl,a⟩;rw[t];have r:=p.later Db a;have z:=Bf a o;have n:qY w w1:=EB (Br _ _) a;clear a q p o u;go_wp2_with (at_builtin;refine Qr (R:=λb=>False) Db rfl (.tmp 11) (.tmp 14) 106 rfl 147 _ 16 Tryz.underlying106 xiB rfl [] _ rfl (r.later Db (Bg _ _)) _ 147 [J c,J 1] rfl (BH _ _) rfl ⟨c,1⟩ (P':=λb=>False) ⟨rfl,rfl⟩ (λh=>rfl) (by unfold maxLen;simp) (by simp) (λ_ h=>h) (λ_ h=>h) ?_;intro g' cap' w2 k l f j d);go_ret;have m:qY w w2:=EB n j;refine⟨g',cap',by simp,?_,Or.inr ?_,f,λb v _=>m.block b v,m.os,m.tape,m.output,m.size⟩
 ·obtain⟨cur,q1,q2,q3,q4,q5,-⟩:=d;exact Cells.row (E:=FG) (sz:=2) (bytes:=0) (P:=λb=>b=g') (xs:=[⟨c,1⟩]) (g:=g') (cap:=cap') ⟨q5.1,q5.2⟩ Db rfl q1 rfl (by simpa using q3) q4 (by simp)
 have:=n.size;simp at l;omega
def DL:List QT->QS->Int->List QT
 | [],s,c=>[⟨s,[⟨c,1⟩]⟩]
 | x :: r,s,c=>if Cw x.site s then ⟨x.site,GP x.lz c⟩ :: r else x :: DL r s c
theorem xja:∀ {xs:List QT} {s:QS} {c:Int},CB (λx=>Cw x.site s) xs=-1->DL xs s c=xs++[⟨s,[⟨c,1⟩]⟩]
 | [],s,c,_=>rfl
 | x :: r,s,c,h=>by
  have a:Cw x.site s=false:=by
   cases d:Cw x.site s with
   | false=>rfl
   | true=>rw[Kq (j:=0) (x:=x) rfl d (λi y f _=>by omega)] at h;simp at h
  have e:CB (λx:QT=>Cw x.site s) r=-1:=by
   unfold CB at h ⊢;rw[List.findIdx?_cons,a] at h
   cases b:r.findIdx? (λx=>Cw x.site s) with
   | none=>rfl
   | some k=>rw[b] at h;simp at h;omega
  simp[DL,a,xja e]
theorem xnx:∀ {xs:List QT} {s:QS} {c:Int} {j:Nat} {x:QT},xs[j]?=some x->Cw x.site s=true->(∀i y,i<j->xs[i]?=some y->Cw y.site s=false)->DL xs s c=xs.set j ⟨x.site,GP x.lz c⟩
 | [],s,c,j,x,h,_,_=>by simp at h
 | y :: r,s,c,0,x,h,hp,_=>by
  simp at h;subst h;simp[DL,hp]
 | y :: r,s,c,j+1,x,h,hp,hn=>by
  have a:=hn 0 y (by omega) rfl;simp only[DL,a,List.set_cons_succ];rw[xnx (xs:=r) (j:=j) (x:=x) (by simpa using h) hp (λi z d b=>hn (i+1) z (by omega) (by simpa using b))];rfl
theorem xjk {w:qW}{g j cap:Nat}{xs:List QT}{x:QT}{v':Value}{c:List QL}{Q S:Nat->Prop}(F:xs[j]?=some x)
  (a:∀i y,i≠j->xs[i]?=some y->∃R:Nat->Prop,¬ R g/\(∀b,R b->S b)/\Mh R w (λk=>w.cell? (O g (i*4+k))) y)
  (z:w.cell? (O g (j*4+0))=some (J x.site.cls)) (s:w.cell? (O g (j*4+1))=some (qZ x.site.name)) (C:w.cell? (O g (j*4+2))=some (J x.site.at')) {u:Value} (G:w.cell? (O g (j*4+3))=some u)
  (B:Fw Q w v' c) (t:¬ Q g) (m:∀b,Q b->S b) (f:S g) (l:xs.length<=cap) (d:cap<=maxLen):Ep S (w.setCell (O g (j*4+3)) v') (qG g xs.length cap) (xs.set j ⟨x.site,c⟩):=by
 have p:=Kw G v';have n:∀o,o≠j*4+3->(w.setCell (O g (j*4+3)) v').cell? (O g o)=w.cell? (O g o):=λo K=>DX _ _ _ _ (by intro e;injection e with _ e2 _;omega);refine⟨some (O g 0),cap,by simp,by simpa using l,d,by simp,λi y q=>⟨g,0,rfl,f,?_⟩⟩;by_cases hij:i=j
 ·subst hij;rw[List.getElem?_set_self (Bz F)] at q
  cases q;simp only[Nat.zero_add];refine⟨(n (i*4+0) (by omega)).trans z,(n (i*4+1) (by omega)).trans s,(n (i*4+2) (by omega)).trans C,v',p,?_⟩;exact B.keep Db (Keeps.of_setCell t _) m
 rw[List.getElem?_set_ne (by omega)] at q;obtain⟨R,D,h,r⟩:=a i y hij q;simp only[Nat.zero_add];refine xbD.move r h (Keeps.of_setCell D _) λk H v hv=>?_;rw[n _ (by omega)];exact hv
theorem OneLeft.cell {w w':qW}{g:Option Nat}{ls:List QL}{e:Ending}(h:OneLeft w g ls e w'){b o:Nat}{v:Value}(a:w.cell? (O b o)=some v)(c:some b≠g):w'.cell? (O b o)=some v:=by
 obtain⟨-,-,-,-,-,-,d,-⟩:=h;have f:=World.block_lt_of_cell? _ _ a;rw[World.cell?_of_block (d b f c)];exact a
theorem OneLeft.frozen {w w':qW}{g:Option Nat}{ls:List QL}{e:Ending}(h:OneLeft w g ls e w'){b:Nat}(c:b<w.heap.size)(d:some b≠g):∀o,w'.frozen? (O b o)=w.frozen? (O b o):=λo=>by
 obtain⟨-,-,-,-,-,-,a,-⟩:=h;exact World.frozen?_of_block (a b c d)
theorem OneLeft.below {w w':qW}{g:Option Nat}{ls:List QL}{e:Ending}(h:OneLeft w g ls e w'){B:Nat}(m:B<=w.heap.size)(i:∀b,g=some b->B<=b):Below B w w':=by
 obtain⟨-,-,-,-,-,-,a,f,j,c,d⟩:=h;exact⟨f,j,c,d,λk l=>a k (by omega) λe=>by have:=i k e.symm;omega⟩
theorem xrm {P:Nat->Prop}(xs:List QT)(v:Value)(s:QS)(c:Int)(w:qW)(hh:Ep P w v xs)(D:(xs.length+1)*56<=140737488355328)(u:∀x∈xs,(x.lz.length+1)*16<=140737488355328) :
  Calls Tryz.prog 145 #[v,SV s,J c] w λe w'=>∃g cap,e=.returned (qG g (DL xs s c).length cap)/\Ep (λb=>w.heap.size<=b) w' (qG g (DL xs s c).length cap) (DL xs s c)/\qY w w':=by
 have hm:=Gm;have Z:xs.length<=maxLen:=by unfold maxLen;omega
 have V:∀x∈xs,x.lz.length<=maxLen:=λx N=>by have:=u x N;unfold maxLen;omega
 obtain⟨ad,cap,rfl,-,-,-,-⟩:=id hh;have a1:=Bg w (qJ s);have a0:=Lf w s 105;go_enter Tryz.func145,Tryz.ntmps145;go_wp2_with fail;refine (xg4 xs _ _ (hh.later xbD a1) Zo (λx N=>by have:=u x N;omega)).mono ?_;rintro e w1 ⟨g,gs,rfl,H,hg,t⟩;have Q:=a0.later t;have Y:qY w w1:=EB (Br _ _) t;have ag:w.heap.size<g:=by simp at hg;omega
 clear t a1 a0 hg hh;go_wp2_with fail;refine (xkO _ (λx=>Cw x.site s) xs _ _ (H.tallies Z V (P:=λb=>g<=b) λb h _=>h) λx a n k w' a4=>xkT x a n k _ s w' (Q.later a4)).mono ?_;rintro e w2 ⟨rfl,l⟩;replace H:=H.later l;replace Q:=Q.later l;have M:qY w w2:=Bh Y l;clear l Y hm;rcases MT (λx:QT=>Cw x.site s) xs with hf | ⟨j,x,hf,N,hp,hn⟩
 ·have HO:Hid (DL xs s c=xs++[⟨s,[⟨c,1⟩]⟩]):=xja hf;rw[hf];obtain⟨s0,s1,s2⟩:=Q;have X:=H.tallies Z V (P:=λb=>g<=b/\b<w2.heap.size) λb h h'=>⟨h,h'⟩
  go_wp2_with (at_builtin;refine Qr (R:=λb=>g<=b/\b<w2.heap.size) xbD rfl (.tmp 18) (.tmp 21) 28 rfl 111 _ 56 Tryz.underlying28 xoR rfl xs _ rfl (X.later xbD (Bg _ _)) _ 111 [J s.cls,qZ s.name,J s.at',qN] rfl (BH _ _) rfl ⟨s,[]⟩ (P':=λb=>False) ⟨rfl,rfl,rfl,_,rfl,none,0,rfl,by simp,by simp,by simp,λi x N=>by simp at N⟩ (λh=>by cases h) (by unfold maxLen;omega) D (λ_ h=>h) (λ_ h=>h.elim) ?_;intro g' cap' w3 r F m B q;obtain⟨G,q1,q2,q3,q4,q5,q6⟩:=q;have k3:=q6 3 _ rfl;have fz3:∀o,w3.frozen? (O g' o)=false:=(λo=>by simp[World.frozen?,q1]);have ai:(xs.length:Int)<(xs.length:Int)+1:=Zo;have ah:(0:Int)<=(xs.length:Int):=Zo;clear r);refine (xlk c w3).mono ?_;rintro e w4 d;have a8:w2.heap.size+1<=g':=by simpa using F
  have a6:=M.size;have K:Hid (qY w3 w4):=d.below (Bq _) (λb h=>by cases h);have U:qY w w3:=EB M B;obtain⟨r0,r1,r2⟩:w4.cell? (O g' (xs.length*4+0))=some (J s.cls)/\w4.cell? (O g' (xs.length*4+1))=some (qZ s.name)/\w4.cell? (O g' (xs.length*4+2))=some (J s.at'):=⟨Bf K.out (q6 0 _ rfl),Bf K.out (q6 1 _ rfl),Bf K.out (q6 2 _ rfl)⟩;have r3:=Bf K.out k3;have f4:∀o,w4.frozen? (O g' o)=false:=λo=>(d.frozen m (by simp) o).trans (fz3 o);obtain⟨g4,z,rfl,p,f,C,-⟩:=d;have a7:w3.heap.size<=g4:=f.resolve_left (by simp)
  have T:Hid (∀i y,i≠xs.length->(xs++[(⟨s,[]⟩:QT)])[i]?=some y->∃R:Nat->Prop,¬ R g'/\(∀b,R b->w.heap.size<=b)/\Mh R w4 (λk=>w4.cell? (O g' (i*4+k))) y):=λi y hi hy=>by
   refine⟨λb=>g<=b/\b<w2.heap.size,λh=>by omega,λb h=>by omega,?_⟩;refine xbD.move (q5.2 i y hy) (λ_ h=>h) (.of_below K.out) λk hk v hv=>?_;rw[List.getElem?_take] at hv;split at hv
   ·refine Bf K.out ?_;rw[Bn q1];simpa using hv
   cases hv
  clear B k3 fz3 q6 q5 X hf m;go_wp2_with fail;go_ret;rw[HO.out];refine⟨g',cap',by simp,?_,(U.trans (K.out.mono U.size)).setCell (by simp;omega) _⟩;have:=xjk (g:=g') (j:=xs.length) (cap:=cap') (xs:=xs++[⟨s,[]⟩]) (x:=⟨s,[]⟩) (S:=λb=>w.heap.size<=b) (by simp) T.out r0 r1 r2 r3 p (by intro h;have:=By q1;omega) (λb h=>by have:=U.size;omega) Zo (by simpa using q3) q4;simpa using this
 have HO:Hid (DL xs s c=xs.set j ⟨x.site,GP x.lz c⟩):=xnx N hp hn;have hj:=Bz N;have ab:(0:Int)<=(j:Int):=by omega
 have a9:(j:Int)<(xs.length:Int):=by omega
 have a5:=u x (List.mem_of_getElem? N);have HX:Hid (xs[j]?=some x):=N;rw[hf];obtain⟨k0,k1,k2,k3⟩:=H.cells j x hj N;have a3:=H.lz j x hj N;have aa:=H.reach j hj
 have fz2:∀o,w2.frozen? (O g o)=false:=by
  obtain⟨cur,h1,-⟩:=H.row;intro o;simp[World.frozen?,h1]
 clear hf hn N Q;go_wp2_with fail;refine (xk8 x.lz (gs j) c w2 a3 a5).mono ?_;rintro e w3 d;have a6:=M.size;have a2:Hid (Below (gs j) w2 w3):=d.below Zo (λb h=>by cases h;exact Bq _);have L:some g≠some (gs j):=by simp;omega
 obtain⟨r0,r1,r2,r3⟩:w3.cell? (O g (j*4+0))=some (J x.site.cls)/\w3.cell? (O g (j*4+1))=some (qZ x.site.name)/\w3.cell? (O g (j*4+2))=some (J x.site.at')/\w3.cell? (O g (j*4+3))=some (qS (some (O (gs j) 0)) x.lz.length x.lz.length):=⟨d.cell k0 L,d.cell k1 L,d.cell k2 L,d.cell k3 L⟩;have f3:∀o,w3.frozen? (O g o)=false:=λo=>(d.frozen Zo L o).trans (fz2 o)
 have T:Hid (∀i y,i≠j->xs[i]?=some y->∃R:Nat->Prop,¬ R g/\(∀b,R b->w.heap.size<=b)/\Mh R w3 (λk=>w3.cell? (O g (i*4+k))) y):=λi y hi hy=>by
  have W:=Bz hy;have af:=H.reach i W
  have aj:gs i≠gs j:=by
   rcases Nat.lt_or_ge i j with h | h
   ·have:=H.rise i j h hj;omega
   have:=H.rise j i Zo W;omega
  obtain⟨c0,c1,c2,c3⟩:=H.cells i y W hy;refine⟨λb=>b=gs i,λh=>by omega,λb h=>by omega,d.cell c0 L,d.cell c1 L,d.cell c2 L,_,d.cell c3 L,?_⟩;refine ((H.lz i y W hy).isLines (V y (List.mem_of_getElem? hy)) (P:=λb=>b=gs i) rfl).keep Db (λb o v hb hc=>?_) λ_ h=>h;exact d.cell hc (by subst hb;simp;omega)
 obtain⟨g4,z,rfl,p,f,C,-⟩:=d;clear k0 k1 k2 k3 fz2 a3 H;go_wp2_with fail;go_ret;rw[HO.out];refine⟨g,xs.length,by simp,?_,(M.trans (a2.out.mono Zo)).setCell (by simp;omega) _⟩
 have ae:g<g4:=by
  rcases f with h | h
  ·cases h;omega
  omega
 have:=xjk (g:=g) (j:=j) (cap:=xs.length) (xs:=xs) (x:=x) (S:=λb=>w.heap.size<=b) HX.out T.out r0 r1 r2 r3 p Zo (λb h=>by omega) Zo (Bq _) Z;simpa using this
end Go.Proofs.YtbafokihegegiaaGreatDoor
