import Derived.Test.YtbafokihegegiaaGreatDoorU27
namespace Go.Proofs.YtbafokihegegiaaGreatDoor
open ChangeShapes WideShapes ChangeAt RowKit
set_option linter.unusedSimpArgs false
set_option linter.unusedVariables false
set_option maxHeartbeats 8000000
set_option maxRecDepth 8000
theorem xvu {X:QW}:BM X=if Ll X≠0 then Ll X else if CP (CY X.cz) 0 X.cz≠0 then CP (CY X.cz) 0 X.cz else if CP (Dm X) 0 X.cz≠0 then CP (Dm X) 0 X.cz else CP (Ev X) 0 X.heap:=by
 unfold BM Ll;by_cases h1:X.cz.length<4\/12<X.cz.length\/60<X.heap.length
 ·rw[if_pos h1,if_pos h1];simp
 rw[if_neg h1,if_neg h1];by_cases h2:X.ez<0\/1073741824<X.ez
 ·rw[if_pos h2,if_pos h2];simp
 rw[if_neg h2,if_neg h2];simp
theorem xvr {X:QW}(h:Ll X=0):X.cz.length<=12:=by
 unfold Ll at h;split at h
 ·cases h
 omega
theorem xuX {P:Nat->Prop}(X:QW)(cv hv:Value)(w:qW)(g:BK P w cv X.cz)(k:BP P w hv X.heap):Calls Tryz.prog 118 #[WV cv hv X.ez] w λe w'=>e=.returned (J (BM X))/\qY w w':=by
 obtain⟨ad,cap,rfl⟩:=g.get;obtain⟨ah,ch,rfl⟩:=k.get;rw[xvu];have p:Hid (Ll X=0->X.cz.length<=12):=xvr;have r:=λw' (h:qY w w')=>xu4 X _ _ w' (g.later Bw h) (k.later BB h);have s:=λ(hn:X.cz.length<=12) w' (h:qY w w')=>xux X _ _ w' (g.later Bw h) (k.later BB h) hn;have t:=λw' (h:qY w w')=>xuw X _ _ w' (g.later Bw h) (k.later BB h);have u:=λ(hn:X.cz.length<=12) w' (h:qY w w')=>xu6 X _ _ w' (g.later Bw h) (k.later BB h) hn;generalize Ll X=r1 at *;generalize CP (CY X.cz) 0 X.cz=r2 at *;generalize CP (Dm X) 0 X.cz=r3 at *;generalize CP (Ev X) 0 X.heap=r4 at *;obtain⟨R,q⟩:∃R,R=(if r1≠0 then r1 else if r2≠0 then r2 else if r3≠0 then r3 else r4):=⟨_,rfl⟩;rw[← q];have n:Hid (R=(if r1≠0 then r1 else if r2≠0 then r2 else if r3≠0 then r3 else r4)):=q;clear q;go_enter Tryz.func118,Tryz.ntmps118;go_upto_region 1 with (fail);have a:=Pw w X (qS ad X.cz.length cap) (qS ah X.heap.length ch);generalize (w.alloc (qA ad cap ah ch X))=W0 at *;have a0:=a.a0;have a1:=a.a1;have a2:=a.a2;go_wp2_with fail;refine (r _ a.bel).mono ?_;rintro e w1 ⟨rfl,b⟩;replace a:=a.later b;clear b a0 a1 a2;by_cases h1:r1=0
 case neg=>
  have j:(r1 != 0)=true:=by simpa using h1
  have m:Hid (r1=R):=by show _=_;rw[n.out,if_pos h1]
  clear h1 n;go_wp2;go_ret;exact⟨BT m.out,a.bel⟩
 have f:=p.out h1;have j:(r1 != 0)=false:=by simp[h1]
 have d:Hid (R=(if r2≠0 then r2 else if r3≠0 then r3 else r4)):=by show _=_;rw[n.out,if_neg (by simp[h1])]
 clear h1 n;have a0:=a.a0;have a1:=a.a1;have a2:=a.a2;go_wp2_with fail;refine (s f _ a.bel).mono ?_;rintro e w2 ⟨rfl,b⟩;replace a:=a.later b;clear b a0 a1 a2 j;by_cases h2:r2=0
 case neg=>
  have i:(r2 != 0)=true:=by simpa using h2
  have m:Hid (r2=R):=by show _=_;rw[d.out,if_pos h2]
  clear h2 d;go_wp2;go_ret;exact⟨BT m.out,a.bel⟩
 have i:(r2 != 0)=false:=by simp[h2]
 have c:Hid (R=(if r3≠0 then r3 else r4)):=by show _=_;rw[d.out,if_neg (by simp[h2])]
 clear h2 d;have a0:=a.a0;have a1:=a.a1;have a2:=a.a2;go_wp2_with fail;refine (t _ a.bel).mono ?_;rintro e w3 ⟨rfl,b⟩;replace a:=a.later b;clear b a0 a1 a2 i;by_cases h3:r3=0
 case neg=>
  have l:(r3 != 0)=true:=by simpa using h3
  have m:Hid (r3=R):=by show _=_;rw[c.out,if_pos h3]
  clear h3 c;go_wp2;go_ret;exact⟨BT m.out,a.bel⟩
 have l:(r3 != 0)=false:=by simp[h3]
 have o:Hid (r4=R):=by show _=_;rw[c.out,if_neg (by simp[h3])]
 clear h3 c;have a0:=a.a0;have a1:=a.a1;have a2:=a.a2;go_wp2_with fail;refine (u f _ a.bel).mono ?_;rintro e w4 ⟨rfl,b⟩;replace a:=a.later b;clear b a0 a1 a2 l;go_wp2;go_ret;exact⟨BT o.out,a.bel⟩
theorem Gj {α β:Type}{f:List UInt8->Option (α × List UInt8)}{g:α->List UInt8->Option (β × List UInt8)}{st s1 s2:Option (List UInt8)}{a:α}{b:β}(i:RdR f st a s1)(h:RdR (g a) s1 b s2):RdR (λl=>(f l).bind λp=>g p.1 p.2) st b s2:=by
 rcases i.cases with ⟨l,r,rfl,d,rfl⟩ | ⟨rfl,d⟩
 ·rcases h.cases with ⟨l2,r2,e,c,rfl⟩ | ⟨rfl,c⟩
  ·cases e;exact RdR.some (by rw[d];exact c)
  exact RdR.bad _ (by rw[d];exact c _ rfl)
 obtain rfl:s2=none:=h
 cases st with
 | none=>exact RdR.none _
 | some l=>exact RdR.bad _ (by rw[d l rfl];rfl)
theorem Nw {α:Type}(x:α)(st:Option (List UInt8)):RdR (λl=>some (x,l)) st x st:=by
 cases st with
 | none=>rfl
 | some l=>exact RdR.some rfl
abbrev OW (x:QO)(sv:Value):Value:=.agg #[J x.cls,sv]
theorem xvd {st s1 s2 s3:Option (List UInt8)}{a b:Int}{nm:ByteArray}(d:RdR Dd st a s1)(e:RdR Dd s1 b s2)(c:if a=14 then RdR Fp s2 nm s3 else nm=⟨#[]⟩/\s3=s2):RdR GS st ⟨a,b,0,0,nm⟩ s3:=by
 refine Gj (g:=λa l=>(Dd l).bind λq=>if a=14 then (Fp q.2).bind λs=>some (QI.mk a q.1 0 0 s.1,s.2) else some (QI.mk a q.1 0 0 ⟨#[]⟩,q.2)) d ?_;refine Gj (g:=λb l=>if a=14 then (Fp l).bind λs=>some (QI.mk a b 0 0 s.1,s.2) else some (QI.mk a b 0 0 ⟨#[]⟩,l)) e ?_;by_cases h:a=14
 ·simp only[if_pos h] at c ⊢;exact Gj (g:=λs l=>some (QI.mk a b 0 0 s,l)) c (Nw _ _)
 simp only[if_neg h] at c ⊢;obtain⟨rfl,rfl⟩:=c;exact Nw _ _
theorem xwR {st s1 s2 s3 s4 s5:Option (List UInt8)}{nm:ByteArray}{a b c:Int}{cd:List QI}(f:RdR Fp st nm s1)(j:RdR Dd s1 a s2)(k:RdR Dd s2 b s3)(h:RdR Dd s3 c s4)(i:RdR (DM GS 60) s4 cd s5):RdR Kj st ⟨nm,a,b,c,cd⟩ s5:=
 Gj (g:=λnm l=>(Dd l).bind λb=>(Dd b.2).bind λc=>(Dd c.2).bind λd=>(DM GS 60 d.2).bind λe=>some (QM.mk nm b.1 c.1 d.1 e.1,e.2)) f
  (Gj (g:=λa l=>(Dd l).bind λc=>(Dd c.2).bind λd=>(DM GS 60 d.2).bind λe=>some (QM.mk nm a c.1 d.1 e.1,e.2)) j
   (Gj (g:=λb l=>(Dd l).bind λd=>(DM GS 60 d.2).bind λe=>some (QM.mk nm a b d.1 e.1,e.2)) k
    (Gj (g:=λc l=>(DM GS 60 l).bind λe=>some (QM.mk nm a b c e.1,e.2)) h
     (Gj (g:=λcd l=>some (QM.mk nm a b c cd,l)) i (Nw _ _)))))
theorem xwz {st s1 s2 s3 s5:Option (List UInt8)}{nm:ByteArray}{a b:Int}{cd:List QM}(f:RdR Fp st nm s1)(h:RdR Dd s1 a s2)(i:RdR Dd s2 b s3)(d:RdR (DM Kj 8) s3 cd s5):RdR Lk st ⟨nm,a,b,cd⟩ s5:=
 Gj (g:=λnm l=>(Dd l).bind λb=>(Dd b.2).bind λc=>(DM Kj 8 c.2).bind λe=>some (QC.mk nm b.1 c.1 e.1,e.2)) f
  (Gj (g:=λa l=>(Dd l).bind λc=>(DM Kj 8 c.2).bind λe=>some (QC.mk nm a c.1 e.1,e.2)) h
   (Gj (g:=λb l=>(DM Kj 8 l).bind λe=>some (QC.mk nm a b e.1,e.2)) i
    (Gj (g:=λcd l=>some (QC.mk nm a b cd,l)) d (Nw _ _))))
theorem xxy {st s1 s2:Option (List UInt8)}{a:Int}{cd:List QV}(b:RdR Dd st a s1)(c:RdR (DM Hs 6) s1 cd s2):RdR Kv st ⟨a,cd⟩ s2:=
 Gj (g:=λa l=>(DM Hs 6 l).bind λe=>some (QO.mk a e.1,e.2)) b (Gj (g:=λcd l=>some (QO.mk a cd,l)) c (Nw _ _))
theorem xwm {st s1 s2 s3:Option (List UInt8)}{a:Int}{cs:List QC}{os:List QO}(b:RdR Dd st a s1)(d:RdR (DM Lk 12) s1 cs s2)(f:RdR (DM Kv 60) s2 os s3):RdR Ms st ⟨cs,os,a⟩ s3:=
 Gj (g:=λa l=>(DM Lk 12 l).bind λc=>(DM Kv 60 c.2).bind λe=>some (QW.mk c.1 e.1 a,e.2)) b
  (Gj (g:=λcs l=>(DM Kv 60 l).bind λe=>some (QW.mk cs e.1 a,e.2)) d
   (Gj (g:=λos l=>some (QW.mk cs os a,l)) f (Nw _ _)))
theorem xvt {br:Nat}{w:qW}{st:Option (List UInt8)}(h:RdS br w st):Calls Tryz.prog 166 #[qP br] w λe w'=>∃(x:QO) (sv:Value) (g:Option (List UInt8)),e=.returned (OW x sv)/\CG (λb=>w.heap.size<=b) w' sv x.slots/\RdR Kv st x g/\RdS br w' g/\RdK br w w':=by
 have l:=NY h #[J 0,qN] 84;have r:=h.lt;clear h;go_enter Tryz.func166,Tryz.ntmps166;go_upto_region 2 with (fail);generalize ((w.alloc (qC #[J 0,qN] 84)).alloc (qC #[J 0,qN] 84))=W0 at *;go_wp2_with (go_at_call 162;refine (Kg l.S).mono ?_;rintro e w1 ⟨n1,s1,rfl,j,k,d,f⟩;refine Hid.out ?_);refine Lib.hid ?_;replace l:=l.call d f;have c0:w1.cell? (O (w.heap.size+1) 0)=some (J 0):=l.c 0;have cf:=BN l.box;replace l:=l.set 0 (J n1);clear d f;go_upto_region 3 with (fail);clear c0 cf;generalize (w1.setCell (O (w.heap.size+1) 0) (J n1))=W1 at *;have o:=By l.box;go_wp2_with (go_at_call 212;refine (xwF 6 (by omega) l.S).mono ?_;rintro e w2 ⟨n2,g2,s2,rfl,m,i,d,f⟩;refine Hid.out ?_);refine Lib.hid ?_;replace m:IsRow _ _ _ (λb=>w.heap.size+2<=b) _ _ _:=m.mono BZ λb n=>by omega
 clear o;replace l:=l.call d f;have c0:w2.cell? (O (w.heap.size+1) 1)=some (qN):=l.c 1;have cf:=BN l.box;replace l:=l.set 1 (qG g2 n2.length n2.length);clear d f;replace m:=m.keep BZ (Keeps.of_setCell (a:=(O (w.heap.size+1) 1)) (by simp) (qG g2 n2.length n2.length)) λb n=>n;go_upto_region 4 with (fail);clear c0 cf;generalize (w2.setCell (O (w.heap.size+1) 1) (qG g2 n2.length n2.length))=W2 at *;have d0:W2.cell? (O (w.heap.size+1) 0)=some (J n1):=l.c 0;have d1:W2.cell? (O (w.heap.size+1) 1)=some (qG g2 n2.length n2.length):=l.c 1;have z0:W2.cell? (O w.heap.size 0)=some (J 0):=l.z 0;have z1:W2.cell? (O w.heap.size 1)=some (qN):=l.z 1;have zf:=BN l.res;have q:=hid (l.fin [J n1,qG g2 n2.length n2.length]);have p:=hid ((m.keep BZ (Keeps.of_block (w':=W2.setCells w.heap.size 0 [J n1,qG g2 n2.length n2.length]) λb n s=>Er (by omega) _ _ _) λb n=>n).mono (Q:=λb=>w.heap.size<=b) BZ λb n=>by omega);clear m;go_wp2;refine Bt (v:=OW ⟨n1,n2⟩ (qG g2 n2.length n2.length)) ?_ rfl ⟨⟨n1,n2⟩,_,s2,rfl,p.out,xxy j i,q.out.1,q.out.2⟩;simp[results,Tryz.results166,go_sem,z0,z1]
theorem xwg {br:Nat}{w:qW}{st:Option (List UInt8)}(a:Nat)(U:a<=1000)(h:RdS br w st):Calls Tryz.prog 165 #[qP br,J (a:Int),.func (.func 166) #[qP br] #[]] w λe w'=>∃(xs:List QO) (g:Nat) (p:Option (List UInt8)),e=.returned (qG g xs.length xs.length)/\IsRow LG 2 32 (λb=>w.heap.size<=b) w' (qG g xs.length xs.length) xs/\RdR (DM Kv a) st xs p/\RdS br w' p/\RdK br w w':=by
 have K:=h.lt;go_enter Tryz.func165,Tryz.ntmps165;go_wp2_with (go_at_call 209;refine (Pm a U h).mono ?_;rintro e w1 ⟨n,t,rfl,u,hn,j,l⟩;refine Hid.out ?_);refine Lib.hid ?_;have L:=xox n Zo;have W:=l.bel.size;have D:RowSt LG 2 84 w.heap.size (w1.alloc (.cells (madeCells #[J 0,qN] (n*2)) 84)) w1.heap.size n []:=RowSt.start _ _ _ (size_madeCells _ _);have z:=j.later (Bg w1 (.cells (madeCells #[J 0,qN] (n*2)) 84));have C:=l.trans (.of_below (Nat.le_of_lt j.lt) (Bg w1 (.cells (madeCells #[J 0,qN] (n*2)) 84)));clear j l;go_wp2_with (fail);generalize (w1.alloc (.cells (madeCells #[J 0,qN] (n*2)) 84))=W1 at *;generalize w1.heap.size=B at *
 go_loopg [15] n (λg c wr=>∃(ys:List QO) (d:Option (List UInt8)),ys.length+g=n/\c=J (ys.length:Int)/\RowSt LG 2 84 w.heap.size wr B n ys/\RdR (EP Kv ys.length) t ys d/\RdS br wr d/\RdK br w wr)
 case atStart=>exact⟨[],t,by simp,rfl,D,Qg _,z,C⟩
 case round=>
  clear D z C L;obtain⟨ys,d,Q,rfl,H,k,M,F⟩:=hrel;by_cases hj:ys.length<n
  ·have R:(ys.length:Int)<(n:Int):=by omega
   have T:(0:Int)<=(ys.length:Int):=by omega
   have a0:B<wr.heap.size:=by obtain⟨⟨c,X,-⟩,-⟩:=id H;exact By X
   go_wp2_with (go_at_call 166;refine (xvt M).mono ?_;rintro e w2 ⟨x,sv,v,rfl,G,s,r,m⟩;refine Hid.out ?_);refine Lib.hid ?_;have y:=H.keep BB m K Zo;have V:=F.bel.size;obtain⟨⟨cur,k1,k2⟩,k3⟩:=id y;have f1:∀o,w2.frozen? (O B o)=false:=BN k1;have a1:ys.length*2+2<=n*2:=by omega
   obtain⟨q0,e0⟩:∃q,w2.cell? (O B (ys.length*2))=some q:=⟨_,by rw[Bn k1];exact Array.getElem?_eq_getElem Zo⟩
   obtain⟨q1,e1⟩:∃q,w2.cell? (O B (ys.length*2+1))=some q:=⟨_,by rw[Bn k1];exact Array.getElem?_eq_getElem Zo⟩
   replace G:CG (λb=>w.heap.size<=b/\b≠B) w2 sv x.slots:=G.mono BZ λb hb=>by omega
   obtain⟨f,i,rfl⟩:=G.get;have Y:=hid (RdS.setsHi (show br<B by omega) [J x.cls,qS f x.slots.length i] (ys.length*2) _ r);have Z:=hid (RdK.setsHi (show w.heap.size<=B by omega) (show br<=B by omega) [J x.cls,qS f x.slots.length i] (ys.length*2) _ (F.trans m));have S:=hid (y.step BB hj (vs:=[J x.cls,qS f x.slots.length i]) rfl ⟨rfl,_,rfl,G⟩);have HQ:=hid (QR k s);have N:=hid Q;clear y r m k s M F k3 H Q;go_wp2;go_roundg (gk-1)
   case measure=>have:=N.out;omega
   case rel=>exact⟨ys++[x],v,by have:=N.out;simp;omega,by simp;try go_num,S.out,by rw[List.length_append];exact HQ.out,Y.out,Z.out⟩
  obtain rfl:n=ys.length:=by omega
  go_wp2;go_ret;exact⟨ys,B,d,rfl,H.row BB rfl Zo Zo Zo,PB u k,M,F⟩
theorem xvS {br:Nat}{w:qW}{st:Option (List UInt8)}(h:RdS br w st):Calls Tryz.prog 247 #[qP br] w λe w'=>∃(x:QI) (d:Option (List UInt8)),e=.returned (IV x)/\x.name.size<=140737488351232/\RdR GS st x d/\RdS br w' d/\RdK br w w':=by
 have m:=NY h #[J 0,J 0,J 0,J 0,qZ ⟨#[]⟩] 69;have q:=h.lt;clear h;go_enter Tryz.func247,Tryz.ntmps247;go_upto_region 2 with (fail);generalize ((w.alloc (qC #[J 0,J 0,J 0,J 0,qZ ⟨#[]⟩] 69)).alloc (qC #[J 0,J 0,J 0,J 0,qZ ⟨#[]⟩] 69))=W0 at *;go_wp2_with (go_at_call 162;refine (Kg m.S).mono ?_;rintro e w1 ⟨n1,s1,rfl,g,l,a,b⟩;refine Hid.out ?_);refine Lib.hid ?_;replace m:=m.call a b;have c0:w1.cell? (O (w.heap.size+1) 0)=some (J 0):=m.c 0;have cf:=BN m.box;replace m:=m.set 0 (J n1);clear a b;go_upto_region 3 with (fail);clear c0 cf;generalize (w1.setCell (O (w.heap.size+1) 0) (J n1))=W1 at *;go_wp2_with (go_at_call 162;refine (Kg m.S).mono ?_;rintro e w2 ⟨n2,s2,rfl,f,k,a,b⟩;refine Hid.out ?_);refine Lib.hid ?_;replace m:=m.call a b;have c0:w2.cell? (O (w.heap.size+1) 1)=some (J 0):=m.c 1;have cf:=BN m.box;replace m:=m.set 1 (J n2);clear a b;go_upto_region 4 with (fail);clear c0 cf;generalize (w2.setCell (O (w.heap.size+1) 1) (J n2))=W2 at *;have d0:W2.cell? (O (w.heap.size+1) 0)=some (J n1):=m.c 0;by_cases h14:n1=14
 ·have n:(n1 == 14)=true:=by simpa using h14
  have p:Hid (∀nm s3,RdR Fp s2 nm s3->RdR GS st ⟨n1,n2,0,0,nm⟩ s3):=λnm s3 r=>xvd g f (by rw[if_pos h14];exact r);clear h14;go_wp2_with (go_at_call 207;refine (xum m.S).mono ?_;rintro e w3 ⟨n3,s3,rfl,j,-,i,a,b⟩;refine Hid.out ?_);refine Lib.hid ?_;replace m:=m.call a b;have c0:w3.cell? (O (w.heap.size+1) 4)=some (qZ ⟨#[]⟩):=m.c 4;have cf:=BN m.box;replace m:=m.set 4 (qZ n3);clear a b;go_upto_region 6 with (fail);clear c0 cf;generalize (w3.setCell (O (w.heap.size+1) 4) (qZ n3))=W3 at *;clear d0 n;have d0b:W3.cell? (O (w.heap.size+1) 0)=some (J n1):=m.c 0;have d1:W3.cell? (O (w.heap.size+1) 1)=some (J n2):=m.c 1;have d2:W3.cell? (O (w.heap.size+1) 2)=some (J 0):=m.c 2;have d3:W3.cell? (O (w.heap.size+1) 3)=some (J 0):=m.c 3;have d4:W3.cell? (O (w.heap.size+1) 4)=some (qZ n3):=m.c 4;have z0:W3.cell? (O w.heap.size 0)=some (J 0):=m.z 0;have z1:W3.cell? (O w.heap.size 1)=some (J 0):=m.z 1;have z2:W3.cell? (O w.heap.size 2)=some (J 0):=m.z 2
  have z3:W3.cell? (O w.heap.size 3)=some (J 0):=m.z 3;have z4:W3.cell? (O w.heap.size 4)=some (qZ ⟨#[]⟩):=m.z 4;have zf:=BN m.res;have o:=hid (m.fin [J n1,J n2,J 0,J 0,qZ n3]);go_wp2;refine Bt (v:=IV ⟨n1,n2,0,0,n3⟩) ?_ rfl ⟨⟨n1,n2,0,0,n3⟩,s3,rfl,i,p.out _ _ j,o.out.1,o.out.2⟩;simp[results,Tryz.results247,go_sem,z0,z1,z2,z3,z4]
 have n:(n1 == 14)=false:=by simpa using h14
 have p:Hid (RdR GS st ⟨n1,n2,0,0,⟨#[]⟩⟩ s2):=xvd g f (by rw[if_neg h14];exact⟨rfl,rfl⟩);clear h14;have d1:W2.cell? (O (w.heap.size+1) 1)=some (J n2):=m.c 1;have d2:W2.cell? (O (w.heap.size+1) 2)=some (J 0):=m.c 2;have d3:W2.cell? (O (w.heap.size+1) 3)=some (J 0):=m.c 3;have d4:W2.cell? (O (w.heap.size+1) 4)=some (qZ ⟨#[]⟩):=m.c 4;have z0:W2.cell? (O w.heap.size 0)=some (J 0):=m.z 0;have z1:W2.cell? (O w.heap.size 1)=some (J 0):=m.z 1;have z2:W2.cell? (O w.heap.size 2)=some (J 0):=m.z 2;have z3:W2.cell? (O w.heap.size 3)=some (J 0):=m.z 3;have z4:W2.cell? (O w.heap.size 4)=some (qZ ⟨#[]⟩):=m.z 4;have zf:=BN m.res;have o:=hid (m.fin [J n1,J n2,J 0,J 0,qZ ⟨#[]⟩]);go_wp2;refine Bt (v:=IV ⟨n1,n2,0,0,⟨#[]⟩⟩) ?_ rfl ⟨⟨n1,n2,0,0,⟨#[]⟩⟩,s2,rfl,(show (ByteArray.mk #[]).size<=140737488351232 by decide),p.out,o.out.1,o.out.2⟩;simp[results,Tryz.results247,go_sem,z0,z1,z2,z3,z4]
theorem xvx {br:Nat}{w:qW}{st:Option (List UInt8)}(d:Nat)(T:d<=1000)(h:RdS br w st):Calls Tryz.prog 246 #[qP br,J (d:Int),.func (.func 247) #[qP br] #[]] w λe w'=>∃(xs:List QI) (g:Nat) (m:Option (List UInt8)),e=.returned (qG g xs.length xs.length)/\IsRow KT 5 48 (λb=>w.heap.size<=b) w' (qG g xs.length xs.length) xs/\RdR (DM GS d) st xs m/\RdS br w' m/\RdK br w w':=by
 have H:=h.lt;go_enter Tryz.func246,Tryz.ntmps246;go_wp2_with (go_at_call 209;refine (Pm d T h).mono ?_;rintro e w1 ⟨n,s,rfl,u,hn,i,k⟩;refine Hid.out ?_);refine Lib.hid ?_;have K:=xov n Zo;have V:=k.bel.size;have D:RowSt KT 5 69 w.heap.size (w1.alloc (.cells (madeCells #[J 0,J 0,J 0,J 0,qZ ⟨#[]⟩] (n*5)) 69)) w1.heap.size n []:=RowSt.start _ _ _ (size_madeCells _ _);have z:=i.later (Bg w1 (.cells (madeCells #[J 0,J 0,J 0,J 0,qZ ⟨#[]⟩] (n*5)) 69));have C:=k.trans (.of_below (Nat.le_of_lt i.lt) (Bg w1 (.cells (madeCells #[J 0,J 0,J 0,J 0,qZ ⟨#[]⟩] (n*5)) 69)));clear i k;go_wp2_with (fail);generalize (w1.alloc (.cells (madeCells #[J 0,J 0,J 0,J 0,qZ ⟨#[]⟩] (n*5)) 69))=W1 at *;generalize w1.heap.size=B at *
 go_loopg [15] n (λg c wr=>∃(ys:List QI) (f:Option (List UInt8)),ys.length+g=n/\c=J (ys.length:Int)/\RowSt KT 5 69 w.heap.size wr B n ys/\RdR (EP GS ys.length) s ys f/\RdS br wr f/\RdK br w wr)
 case atStart=>exact⟨[],s,by simp,rfl,D,Qg _,z,C⟩
 case round=>
  clear D z C K;obtain⟨ys,f,N,rfl,G,j,L,F⟩:=hrel;by_cases hj:ys.length<n
  ·have Q:(ys.length:Int)<(n:Int):=by omega
   have S:(0:Int)<=(ys.length:Int):=by omega
   have Z:B<wr.heap.size:=by obtain⟨⟨c,W,-⟩,-⟩:=id G;exact By W
   go_wp2_with (go_at_call 247;refine (xvS L).mono ?_;rintro e w2 ⟨x,v,rfl,t,r,p,l⟩;refine Hid.out ?_);refine Lib.hid ?_;have y:=G.keep BR l H Zo;have U:=F.bel.size;obtain⟨⟨cur,k1,k2⟩,k3⟩:=id y;have f1:∀o,w2.frozen? (O B o)=false:=BN k1;have a0:ys.length*5+5<=n*5:=by omega
   obtain⟨q0,e0⟩:∃q,w2.cell? (O B (ys.length*5))=some q:=⟨_,by rw[Bn k1];exact Array.getElem?_eq_getElem Zo⟩
   obtain⟨q1,e1⟩:∃q,w2.cell? (O B (ys.length*5+1))=some q:=⟨_,by rw[Bn k1];exact Array.getElem?_eq_getElem Zo⟩
   obtain⟨q2,e2⟩:∃q,w2.cell? (O B (ys.length*5+2))=some q:=⟨_,by rw[Bn k1];exact Array.getElem?_eq_getElem Zo⟩
   obtain⟨q3,e3⟩:∃q,w2.cell? (O B (ys.length*5+3))=some q:=⟨_,by rw[Bn k1];exact Array.getElem?_eq_getElem Zo⟩
   obtain⟨q4,e4⟩:∃q,w2.cell? (O B (ys.length*5+4))=some q:=⟨_,by rw[Bn k1];exact Array.getElem?_eq_getElem Zo⟩
   have X:=hid (RdS.setsHi (show br<B by omega) [J x.op,J x.a,J x.b,J x.c,qZ x.name] (ys.length*5) _ p);have Y:=hid (RdK.setsHi (show w.heap.size<=B by omega) (show br<=B by omega) [J x.op,J x.a,J x.b,J x.c,qZ x.name] (ys.length*5) _ (F.trans l));have R:=hid (y.step BR hj (vs:=[J x.op,J x.a,J x.b,J x.c,qZ x.name]) rfl ⟨rfl,rfl,rfl,rfl,rfl,t⟩);have HQ:=hid (QR j r);have M:=hid N;clear y p l j r L F k3 G N;go_wp2;go_roundg (gk-1)
   case measure=>have:=M.out;omega
   case rel=>exact⟨ys++[x],v,by have:=M.out;simp;omega,by simp;try go_num,R.out,by rw[List.length_append];exact HQ.out,X.out,Y.out⟩
  obtain rfl:n=ys.length:=by omega
  go_wp2;go_ret;exact⟨ys,B,f,rfl,G.row BR rfl Zo Zo Zo,PB u j,L,F⟩
theorem xvz {br:Nat}{w:qW}{st:Option (List UInt8)}(h:RdS br w st):Calls Tryz.prog 211 #[qP br] w λe w'=>∃(x:QM) (kv:Value) (g:Option (List UInt8)),e=.returned (MV x kv)/\x.name.size<=140737488351232/\Cm (λb=>w.heap.size<=b) w' kv x.code/\RdR Kj st x g/\RdS br w' g/\RdK br w w':=by
 have r:=NY h #[qZ ⟨#[]⟩,J 0,J 0,J 0,qN] 51;have C:=h.lt;clear h;go_enter Tryz.func211,Tryz.ntmps211;go_upto_region 2 with (fail);generalize ((w.alloc (qC #[qZ ⟨#[]⟩,J 0,J 0,J 0,qN] 51)).alloc (qC #[qZ ⟨#[]⟩,J 0,J 0,J 0,qN] 51))=W0 at *;go_wp2_with (go_at_call 207;refine (xum r.S).mono ?_;rintro e w1 ⟨n1,s1,rfl,m,-,n,d,f⟩;refine Hid.out ?_);refine Lib.hid ?_;replace r:=r.call d f;have c0:w1.cell? (O (w.heap.size+1) 0)=some (qZ ⟨#[]⟩):=r.c 0;have cf:=BN r.box;replace r:=r.set 0 (qZ n1);clear d f;go_upto_region 3 with (fail);clear c0 cf;generalize (w1.setCell (O (w.heap.size+1) 0) (qZ n1))=W1 at *;go_wp2_with (go_at_call 162;refine (Kg r.S).mono ?_;rintro e w2 ⟨n2,s2,rfl,i,o,d,f⟩;refine Hid.out ?_);refine Lib.hid ?_;replace r:=r.call d f;have c0:w2.cell? (O (w.heap.size+1) 1)=some (J 0):=r.c 1;have cf:=BN r.box;replace r:=r.set 1 (J n2);clear d f;go_upto_region 4 with (fail);clear c0 cf;generalize (w2.setCell (O (w.heap.size+1) 1) (J n2))=W2 at *;go_wp2_with (go_at_call 162;refine (Kg r.S).mono ?_;rintro e w3 ⟨n3,s3,rfl,l,p,d,f⟩;refine Hid.out ?_)
 refine Lib.hid ?_;replace r:=r.call d f;have c0:w3.cell? (O (w.heap.size+1) 2)=some (J 0):=r.c 2;have cf:=BN r.box;replace r:=r.set 2 (J n3);clear d f;go_upto_region 5 with (fail);clear c0 cf;generalize (w3.setCell (O (w.heap.size+1) 2) (J n3))=W3 at *;go_wp2_with (go_at_call 162;refine (Kg r.S).mono ?_;rintro e w4 ⟨n4,s4,rfl,k,q,d,f⟩;refine Hid.out ?_);refine Lib.hid ?_;replace r:=r.call d f;have c0:w4.cell? (O (w.heap.size+1) 3)=some (J 0):=r.c 3;have cf:=BN r.box;replace r:=r.set 3 (J n4);clear d f;go_upto_region 6 with (fail);clear c0 cf;generalize (w4.setCell (O (w.heap.size+1) 3) (J n4))=W4 at *;have u:=By r.box;go_wp2_with (go_at_call 246;refine (xvx 60 (by omega) r.S).mono ?_;rintro e w5 ⟨n5,g5,s5,rfl,s,j,d,f⟩;refine Hid.out ?_);refine Lib.hid ?_;replace s:IsRow _ _ _ (λb=>w.heap.size+2<=b) _ _ _:=s.mono BR λb t=>by omega
 clear u;replace r:=r.call d f;have c0:w5.cell? (O (w.heap.size+1) 4)=some (qN):=r.c 4;have cf:=BN r.box;replace r:=r.set 4 (qG g5 n5.length n5.length);clear d f;replace s:=s.keep BR (Keeps.of_setCell (a:=(O (w.heap.size+1) 4)) (by simp) (qG g5 n5.length n5.length)) λb t=>t;go_upto_region 7 with (fail);clear c0 cf;generalize (w5.setCell (O (w.heap.size+1) 4) (qG g5 n5.length n5.length))=W5 at *;have d0:W5.cell? (O (w.heap.size+1) 0)=some (qZ n1):=r.c 0;have d1:W5.cell? (O (w.heap.size+1) 1)=some (J n2):=r.c 1;have d2:W5.cell? (O (w.heap.size+1) 2)=some (J n3):=r.c 2;have d3:W5.cell? (O (w.heap.size+1) 3)=some (J n4):=r.c 3;have d4:W5.cell? (O (w.heap.size+1) 4)=some (qG g5 n5.length n5.length):=r.c 4;have z0:W5.cell? (O w.heap.size 0)=some (qZ ⟨#[]⟩):=r.z 0;have z1:W5.cell? (O w.heap.size 1)=some (J 0):=r.z 1
 have z2:W5.cell? (O w.heap.size 2)=some (J 0):=r.z 2;have z3:W5.cell? (O w.heap.size 3)=some (J 0):=r.z 3;have z4:W5.cell? (O w.heap.size 4)=some (qN):=r.z 4;have zf:=BN r.res;have B:=hid (r.fin [qZ n1,J n2,J n3,J n4,qG g5 n5.length n5.length]);have y:=hid ((s.keep BR (Keeps.of_block (w':=W5.setCells w.heap.size 0 [qZ n1,J n2,J n3,J n4,qG g5 n5.length n5.length]) λb t D=>Er (by omega) _ _ _) λb t=>t).mono (Q:=λb=>w.heap.size<=b) BR λb t=>by omega);clear s;go_wp2;refine Bt (v:=MV ⟨n1,n2,n3,n4,n5⟩ (qG g5 n5.length n5.length)) ?_ rfl ⟨⟨n1,n2,n3,n4,n5⟩,_,s5,rfl,n,y.out,xwR m i l k j,B.out.1,B.out.2⟩;simp[results,Tryz.results211,go_sem,z0,z1,z2,z3,z4]
theorem xvW {br:Nat}{w:qW}{st:Option (List UInt8)}(a:Nat)(V:a<=1000)(h:RdS br w st):Calls Tryz.prog 210 #[qP br,J (a:Int),.func (.func 211) #[qP br] #[]] w λe w'=>∃(xs:List QM) (g:Nat) (p:Option (List UInt8)),e=.returned (qG g xs.length xs.length)/\IsRow Fk 5 64 (λb=>w.heap.size<=b) w' (qG g xs.length xs.length) xs/\RdR (DM Kj a) st xs p/\RdS br w' p/\RdK br w w':=by
 have L:=h.lt;go_enter Tryz.func210,Tryz.ntmps210;go_wp2_with (go_at_call 209;refine (Pm a V h).mono ?_;rintro e w1 ⟨n,t,rfl,v,hn,j,l⟩;refine Hid.out ?_);refine Lib.hid ?_;have M:=xmm n Zo;have X:=l.bel.size;have F:RowSt Fk 5 51 w.heap.size (w1.alloc (.cells (madeCells #[qZ ⟨#[]⟩,J 0,J 0,J 0,qN] (n*5)) 51)) w1.heap.size n []:=RowSt.start _ _ _ (size_madeCells _ _);have C:=j.later (Bg w1 (.cells (madeCells #[qZ ⟨#[]⟩,J 0,J 0,J 0,qN] (n*5)) 51));have D:=l.trans (.of_below (Nat.le_of_lt j.lt) (Bg w1 (.cells (madeCells #[qZ ⟨#[]⟩,J 0,J 0,J 0,qN] (n*5)) 51)));clear j l;go_wp2_with (fail);generalize (w1.alloc (.cells (madeCells #[qZ ⟨#[]⟩,J 0,J 0,J 0,qN] (n*5)) 51))=W1 at *;generalize w1.heap.size=B at *
 go_loopg [15] n (λg c wr=>∃(ys:List QM) (d:Option (List UInt8)),ys.length+g=n/\c=J (ys.length:Int)/\RowSt Fk 5 51 w.heap.size wr B n ys/\RdR (EP Kj ys.length) t ys d/\RdS br wr d/\RdK br w wr)
 case atStart=>exact⟨[],t,by simp,rfl,F,Qg _,C,D⟩
 case round=>
  clear F C D M;obtain⟨ys,d,R,rfl,K,k,N,G⟩:=hrel;by_cases hj:ys.length<n
  ·have S:(ys.length:Int)<(n:Int):=by omega
   have U:(0:Int)<=(ys.length:Int):=by omega
   have a0:B<wr.heap.size:=by obtain⟨⟨c,Y,-⟩,-⟩:=id K;exact By Y
   go_wp2_with (go_at_call 211;refine (xvz N).mono ?_;rintro e w2 ⟨x,sv,y,rfl,u,H,s,r,m⟩;refine Hid.out ?_);refine Lib.hid ?_;have z:=K.keep xbj m L Zo;have W:=G.bel.size;obtain⟨⟨cur,k1,k2⟩,k3⟩:=id z;have f1:∀o,w2.frozen? (O B o)=false:=BN k1;have a1:ys.length*5+5<=n*5:=by omega
   obtain⟨q0,e0⟩:∃q,w2.cell? (O B (ys.length*5))=some q:=⟨_,by rw[Bn k1];exact Array.getElem?_eq_getElem Zo⟩
   obtain⟨q1,e1⟩:∃q,w2.cell? (O B (ys.length*5+1))=some q:=⟨_,by rw[Bn k1];exact Array.getElem?_eq_getElem Zo⟩
   obtain⟨q2,e2⟩:∃q,w2.cell? (O B (ys.length*5+2))=some q:=⟨_,by rw[Bn k1];exact Array.getElem?_eq_getElem Zo⟩
   obtain⟨q3,e3⟩:∃q,w2.cell? (O B (ys.length*5+3))=some q:=⟨_,by rw[Bn k1];exact Array.getElem?_eq_getElem Zo⟩
   obtain⟨q4,e4⟩:∃q,w2.cell? (O B (ys.length*5+4))=some q:=⟨_,by rw[Bn k1];exact Array.getElem?_eq_getElem Zo⟩
   replace H:Cm (λb=>w.heap.size<=b/\b≠B) w2 sv x.code:=H.mono BR λb hb=>by omega
   obtain⟨f,i,rfl⟩:=H.get;have Z:=hid (RdS.setsHi (show br<B by omega) [qZ x.name,J x.args,J x.temps,J x.prim,qS f x.code.length i] (ys.length*5) _ r);have HK:=hid (RdK.setsHi (show w.heap.size<=B by omega) (show br<=B by omega) [qZ x.name,J x.args,J x.temps,J x.prim,qS f x.code.length i] (ys.length*5) _ (G.trans m));have T:=hid (z.step xbj hj (vs:=[qZ x.name,J x.args,J x.temps,J x.prim,qS f x.code.length i]) rfl ⟨rfl,rfl,rfl,rfl,u,_,rfl,H⟩);have HQ:=hid (QR k s);have Q:=hid R;clear z r m k s N G k3 K R;go_wp2;go_roundg (gk-1)
   case measure=>have:=Q.out;omega
   case rel=>exact⟨ys++[x],y,by have:=Q.out;simp;omega,by simp;try go_num,T.out,by rw[List.length_append];exact HQ.out,Z.out,HK.out⟩
  obtain rfl:n=ys.length:=by omega
  go_wp2;go_ret;exact⟨ys,B,d,rfl,K.row xbj rfl Zo Zo Zo,PB v k,N,G⟩
theorem xv7 {br:Nat}{w:qW}{st:Option (List UInt8)}(h:RdS br w st):Calls Tryz.prog 164 #[qP br] w λe w'=>∃(x:QC) (kv:Value) (g:Option (List UInt8)),e=.returned (CV x kv)/\x.name.size<=140737488351232/\EC (λb=>w.heap.size<=b) w' kv x.mz/\RdR Lk st x g/\RdS br w' g/\RdK br w w':=by
 have p:=NY h #[qZ ⟨#[]⟩,J 0,J 0,qN] 80;have y:=h.lt;clear h;go_enter Tryz.func164,Tryz.ntmps164;go_upto_region 2 with (fail);generalize ((w.alloc (qC #[qZ ⟨#[]⟩,J 0,J 0,qN] 80)).alloc (qC #[qZ ⟨#[]⟩,J 0,J 0,qN] 80))=W0 at *;go_wp2_with (go_at_call 207;refine (xum p.S).mono ?_;rintro e w1 ⟨n1,s1,rfl,l,-,m,d,f⟩;refine Hid.out ?_);refine Lib.hid ?_;replace p:=p.call d f;have c0:w1.cell? (O (w.heap.size+1) 0)=some (qZ ⟨#[]⟩):=p.c 0;have cf:=BN p.box;replace p:=p.set 0 (qZ n1);clear d f;go_upto_region 3 with (fail);clear c0 cf;generalize (w1.setCell (O (w.heap.size+1) 0) (qZ n1))=W1 at *;go_wp2_with (go_at_call 162;refine (Kg p.S).mono ?_;rintro e w2 ⟨n2,s2,rfl,i,n,d,f⟩;refine Hid.out ?_);refine Lib.hid ?_;replace p:=p.call d f;have c0:w2.cell? (O (w.heap.size+1) 1)=some (J 0):=p.c 1;have cf:=BN p.box;replace p:=p.set 1 (J n2);clear d f;go_upto_region 4 with (fail);clear c0 cf;generalize (w2.setCell (O (w.heap.size+1) 1) (J n2))=W2 at *;go_wp2_with (go_at_call 162;refine (Kg p.S).mono ?_;rintro e w3 ⟨n3,s3,rfl,k,o,d,f⟩;refine Hid.out ?_)
 refine Lib.hid ?_;replace p:=p.call d f;have c0:w3.cell? (O (w.heap.size+1) 2)=some (J 0):=p.c 2;have cf:=BN p.box;replace p:=p.set 2 (J n3);clear d f;go_upto_region 5 with (fail);clear c0 cf;generalize (w3.setCell (O (w.heap.size+1) 2) (J n3))=W3 at *;have s:=By p.box;go_wp2_with (go_at_call 210;refine (xvW 8 (by omega) p.S).mono ?_;rintro e w4 ⟨n4,g4,s4,rfl,q,j,d,f⟩;refine Hid.out ?_);refine Lib.hid ?_;replace q:IsRow _ _ _ (λb=>w.heap.size+2<=b) _ _ _:=q.mono xbj λb r=>by omega
 clear s;replace p:=p.call d f;have c0:w4.cell? (O (w.heap.size+1) 3)=some (qN):=p.c 3;have cf:=BN p.box;replace p:=p.set 3 (qG g4 n4.length n4.length);clear d f;replace q:=q.keep xbj (Keeps.of_setCell (a:=(O (w.heap.size+1) 3)) (by simp) (qG g4 n4.length n4.length)) λb r=>r;go_upto_region 6 with (fail);clear c0 cf;generalize (w4.setCell (O (w.heap.size+1) 3) (qG g4 n4.length n4.length))=W4 at *;have d0:W4.cell? (O (w.heap.size+1) 0)=some (qZ n1):=p.c 0;have d1:W4.cell? (O (w.heap.size+1) 1)=some (J n2):=p.c 1;have d2:W4.cell? (O (w.heap.size+1) 2)=some (J n3):=p.c 2;have d3:W4.cell? (O (w.heap.size+1) 3)=some (qG g4 n4.length n4.length):=p.c 3;have z0:W4.cell? (O w.heap.size 0)=some (qZ ⟨#[]⟩):=p.z 0;have z1:W4.cell? (O w.heap.size 1)=some (J 0):=p.z 1;have z2:W4.cell? (O w.heap.size 2)=some (J 0):=p.z 2;have z3:W4.cell? (O w.heap.size 3)=some (qN):=p.z 3;have zf:=BN p.res;have u:=hid (p.fin [qZ n1,J n2,J n3,qG g4 n4.length n4.length]);have t:=hid ((q.keep xbj (Keeps.of_block (w':=W4.setCells w.heap.size 0 [qZ n1,J n2,J n3,qG g4 n4.length n4.length]) λb r B=>Er (by omega) _ _ _) λb r=>r).mono (Q:=λb=>w.heap.size<=b) xbj λb r=>by omega)
 clear q;go_wp2;refine Bt (v:=CV ⟨n1,n2,n3,n4⟩ (qG g4 n4.length n4.length)) ?_ rfl ⟨⟨n1,n2,n3,n4⟩,_,s4,rfl,m,t.out,xwz l i k j,u.out.1,u.out.2⟩;simp[results,Tryz.results164,go_sem,z0,z1,z2,z3]
theorem xvm {br:Nat}{w:qW}{st:Option (List UInt8)}(a:Nat)(V:a<=1000)(h:RdS br w st):Calls Tryz.prog 163 #[qP br,J (a:Int),.func (.func 164) #[qP br] #[]] w λe w'=>∃(xs:List QC) (g:Nat) (p:Option (List UInt8)),e=.returned (qG g xs.length xs.length)/\IsRow Kd 4 56 (λb=>w.heap.size<=b) w' (qG g xs.length xs.length) xs/\RdR (DM Lk a) st xs p/\RdS br w' p/\RdK br w w':=by
 have L:=h.lt;go_enter Tryz.func163,Tryz.ntmps163;go_wp2_with (go_at_call 209;refine (Pm a V h).mono ?_;rintro e w1 ⟨n,t,rfl,v,hn,j,l⟩;refine Hid.out ?_);refine Lib.hid ?_;have M:=xjj n Zo;have X:=l.bel.size;have F:RowSt Kd 4 80 w.heap.size (w1.alloc (.cells (madeCells #[qZ ⟨#[]⟩,J 0,J 0,qN] (n*4)) 80)) w1.heap.size n []:=RowSt.start _ _ _ (size_madeCells _ _);have C:=j.later (Bg w1 (.cells (madeCells #[qZ ⟨#[]⟩,J 0,J 0,qN] (n*4)) 80));have D:=l.trans (.of_below (Nat.le_of_lt j.lt) (Bg w1 (.cells (madeCells #[qZ ⟨#[]⟩,J 0,J 0,qN] (n*4)) 80)));clear j l;go_wp2_with (fail);generalize (w1.alloc (.cells (madeCells #[qZ ⟨#[]⟩,J 0,J 0,qN] (n*4)) 80))=W1 at *;generalize w1.heap.size=B at *
 go_loopg [15] n (λg c wr=>∃(ys:List QC) (d:Option (List UInt8)),ys.length+g=n/\c=J (ys.length:Int)/\RowSt Kd 4 80 w.heap.size wr B n ys/\RdR (EP Lk ys.length) t ys d/\RdS br wr d/\RdK br w wr)
 case atStart=>exact⟨[],t,by simp,rfl,F,Qg _,C,D⟩
 case round=>
  clear F C D M;obtain⟨ys,d,R,rfl,K,k,N,G⟩:=hrel;by_cases hj:ys.length<n
  ·have S:(ys.length:Int)<(n:Int):=by omega
   have U:(0:Int)<=(ys.length:Int):=by omega
   have a0:B<wr.heap.size:=by obtain⟨⟨c,Y,-⟩,-⟩:=id K;exact By Y
   go_wp2_with (go_at_call 164;refine (xv7 N).mono ?_;rintro e w2 ⟨x,sv,y,rfl,u,H,s,r,m⟩;refine Hid.out ?_);refine Lib.hid ?_;have z:=K.keep Bw m L Zo;have W:=G.bel.size;obtain⟨⟨cur,k1,k2⟩,k3⟩:=id z;have f1:∀o,w2.frozen? (O B o)=false:=BN k1;have a1:ys.length*4+4<=n*4:=by omega
   obtain⟨q0,e0⟩:∃q,w2.cell? (O B (ys.length*4))=some q:=⟨_,by rw[Bn k1];exact Array.getElem?_eq_getElem Zo⟩
   obtain⟨q1,e1⟩:∃q,w2.cell? (O B (ys.length*4+1))=some q:=⟨_,by rw[Bn k1];exact Array.getElem?_eq_getElem Zo⟩
   obtain⟨q2,e2⟩:∃q,w2.cell? (O B (ys.length*4+2))=some q:=⟨_,by rw[Bn k1];exact Array.getElem?_eq_getElem Zo⟩
   obtain⟨q3,e3⟩:∃q,w2.cell? (O B (ys.length*4+3))=some q:=⟨_,by rw[Bn k1];exact Array.getElem?_eq_getElem Zo⟩
   replace H:EC (λb=>w.heap.size<=b/\b≠B) w2 sv x.mz:=H.mono xbj λb hb=>by omega
   obtain⟨f,i,rfl⟩:=H.get;have Z:=hid (RdS.setsHi (show br<B by omega) [qZ x.name,J x.super,J x.slots,qS f x.mz.length i] (ys.length*4) _ r);have HK:=hid (RdK.setsHi (show w.heap.size<=B by omega) (show br<=B by omega) [qZ x.name,J x.super,J x.slots,qS f x.mz.length i] (ys.length*4) _ (G.trans m));have T:=hid (z.step Bw hj (vs:=[qZ x.name,J x.super,J x.slots,qS f x.mz.length i]) rfl ⟨rfl,rfl,rfl,u,_,rfl,H⟩);have HQ:=hid (QR k s);have Q:=hid R;clear z r m k s N G k3 K R;go_wp2;go_roundg (gk-1)
   case measure=>have:=Q.out;omega
   case rel=>exact⟨ys++[x],y,by have:=Q.out;simp;omega,by simp;try go_num,T.out,by rw[List.length_append];exact HQ.out,Z.out,HK.out⟩
  obtain rfl:n=ys.length:=by omega
  go_wp2;go_ret;exact⟨ys,B,d,rfl,K.row Bw rfl Zo Zo Zo,PB v k,N,G⟩
theorem xv4 {br:Nat}{w:qW}{st:Option (List UInt8)}(h:RdS br w st):Calls Tryz.prog 117 #[qP br] w λe w'=>∃(X:QW) (cv hv:Value) (g:Option (List UInt8)),e=.returned (WV cv hv X.ez)/\BK (λb=>w.heap.size<=b) w' cv X.cz/\BP (λb=>w.heap.size<=b) w' hv X.heap/\RdR Ms st X g/\RdS br w' g/\RdK br w w':=by
 have m:=NY h #[qN,qN,J 0] 26;have y:=h.lt;clear h;go_enter Tryz.func117,Tryz.ntmps117;go_upto_region 2 with (fail);generalize ((w.alloc (qO)).alloc (qO))=W0 at *;go_wp2_with (go_at_call 162;refine (Kg m.S).mono ?_;rintro e w1 ⟨n1,s1,rfl,k,l,f,d⟩;refine Hid.out ?_);refine Lib.hid ?_;replace m:=m.call f d;have c0:w1.cell? (O (w.heap.size+1) 2)=some (J 0):=m.c 2;have cf:=BN m.box;replace m:=m.set 2 (J n1);clear f d;go_upto_region 3 with (fail);clear c0 cf;generalize (w1.setCell (O (w.heap.size+1) 2) (J n1))=W1 at *;have q:=By m.box;go_wp2_with (go_at_call 163;refine (xvm 12 Zo m.S).mono ?_;rintro e w2 ⟨n2,g2,s2,rfl,n,i,f,d⟩;refine Hid.out ?_);refine Lib.hid ?_;replace n:IsRow _ _ _ (λb=>w.heap.size+2<=b) _ _ _:=n.mono Bw λb o=>by omega
 clear q;replace m:=m.call f d;have c0:w2.cell? (O (w.heap.size+1) 0)=some (qN):=m.c 0;have cf:=BN m.box;replace m:=m.set 0 (qG g2 n2.length n2.length);clear f d;replace n:=n.keep Bw (Keeps.of_setCell (a:=(O (w.heap.size+1) 0)) (by simp) (qG g2 n2.length n2.length)) λb o=>o;go_upto_region 4 with (fail);clear c0 cf;generalize (w2.setCell (O (w.heap.size+1) 0) (qG g2 n2.length n2.length))=W2 at *;have q:=By m.box;go_wp2_with (go_at_call 165;refine (xwg 60 Zo m.S).mono ?_;rintro e w3 ⟨n3,g3,s3,rfl,p,j,f,d⟩;refine Hid.out ?_);refine Lib.hid ?_;replace n:=n.keep Bw (Keeps.of_block λb o s=>d.oth b s Zo) λb o=>o;replace p:IsRow _ _ _ (λb=>w.heap.size+2<=b) _ _ _:=p.mono BB λb o=>by omega
 clear q;replace m:=m.call f d;have c0:w3.cell? (O (w.heap.size+1) 1)=some (qN):=m.c 1;have cf:=BN m.box;replace m:=m.set 1 (qG g3 n3.length n3.length);clear f d;replace n:=n.keep Bw (Keeps.of_setCell (a:=(O (w.heap.size+1) 1)) (by simp) (qG g3 n3.length n3.length)) λb o=>o;replace p:=p.keep BB (Keeps.of_setCell (a:=(O (w.heap.size+1) 1)) (by simp) (qG g3 n3.length n3.length)) λb o=>o;go_upto_region 5 with (fail);clear c0 cf;generalize (w3.setCell (O (w.heap.size+1) 1) (qG g3 n3.length n3.length))=W3 at *;have d0:W3.cell? (O (w.heap.size+1) 0)=some (qG g2 n2.length n2.length):=m.c 0;have d1:W3.cell? (O (w.heap.size+1) 1)=some (qG g3 n3.length n3.length):=m.c 1;have d2:W3.cell? (O (w.heap.size+1) 2)=some (J n1):=m.c 2;have z0:W3.cell? (O w.heap.size 0)=some (qN):=m.z 0;have z1:W3.cell? (O w.heap.size 1)=some (qN):=m.z 1;have z2:W3.cell? (O w.heap.size 2)=some (J 0):=m.z 2;have zf:=BN m.res
 have u:=hid (m.fin [qG g2 n2.length n2.length,qG g3 n3.length n3.length,J n1]);have t:=hid ((n.keep Bw (Keeps.of_block (w':=W3.setCells w.heap.size 0 [qG g2 n2.length n2.length,qG g3 n3.length n3.length,J n1]) λb o s=>Er Zo _ _ _) λb o=>o).mono (Q:=λb=>w.heap.size<=b) Bw λb o=>by omega);clear n;have r:=hid ((p.keep BB (Keeps.of_block (w':=W3.setCells w.heap.size 0 [qG g2 n2.length n2.length,qG g3 n3.length n3.length,J n1]) λb o s=>Er Zo _ _ _) λb o=>o).mono (Q:=λb=>w.heap.size<=b) BB λb o=>by omega);clear p;go_wp2;refine Bt (v:=WV (qG g2 n2.length n2.length) (qG g3 n3.length n3.length) n1) ?_ rfl ⟨⟨n2,n3,n1⟩,_,_,s3,rfl,t.out,r.out,xwm k i j,u.out.1,u.out.2⟩;simp[results,Tryz.results117,go_sem,z0,z1,z2]
def BytesIn (w:qW)(v:Value)(l:List UInt8):Prop:=∃ad cap,v=qS ad l.length cap/\l.length<=cap/\cap<=maxLen/\(ad=none->cap=0)/\l.length<=140737488351232/\xxQ w.heap.size w ad l
theorem TextAt.bytes {w0 w:qW}{v:Value}{l:List UInt8}(h:TextAt w0 w v l)(f:l.length<=140737488351232):BytesIn w v l:=by
 obtain⟨ad,cap,rfl,p,k⟩:=h;rcases k with ⟨e,d⟩ | ⟨g,c,cur,e,r,b,n,m,o,j⟩
 ·have:l=[]:=List.eq_nil_of_length_eq_zero d;subst this;simp only[Value.slice.injEq] at e;obtain⟨rfl,-,rfl⟩:=e;exact⟨none,0,rfl,by simp,by unfold maxLen;omega,λ_=>rfl,by simp,λi x a=>by simp at a⟩
 simp only[Value.slice.injEq] at e;obtain⟨rfl,-,rfl⟩:=e;refine⟨_,cap,rfl,n,m,(λe=>by cases e),f,λi x a=>⟨g,0,rfl,By b,?_⟩⟩;rw[Nat.zero_add,Bn b];have q:=Bz a;have e2:=congrArg (λz=>z[i]?) j;simp only[List.getElem?_take] at e2;rw[if_pos (by omega)] at e2;rw[← Array.getElem?_toList,e2];unfold Lib.byteCells;rw[List.getElem?_map,a];rfl
theorem xuh {α:Type}(E:CT α)(sz bytes:Nat)(P:Nat->Prop)(w:qW):IsRow E sz bytes P w (qN) ([]:List α):=⟨none,0,rfl,by simp,by unfold maxLen;omega,by simp,λi x a=>by simp at a⟩
def xvO (w:qW)(Y:QW)(n:Int)(e:Ending)(w':qW):Prop:=∃cv hv,e=.returned (.tuple #[WV cv hv Y.ez,J n])/\BK (λb=>w.heap.size<=b) w' cv Y.cz/\BP (λb=>w.heap.size<=b) w' hv Y.heap/\qY w w'
structure PaS (w:qW)(w':qW):Prop where
 res:w'.heap[w.heap.size]?=some (qO)
 bel:qY w w'
theorem PaS.later {w w' w2:qW}(h:PaS w w')(a:qY w' w2):PaS w w2:=⟨(a.block _ (By h.res)).trans h.res,Bh h.bel a⟩
theorem PaS.z {w w':qW}(h:PaS w w')(k:Nat):w'.cell? (O w.heap.size k)=#[qN,qN,J 0][k]?:=Bn h.res
theorem xww (l:List UInt8)(v:Value)(w:qW)(p:BytesIn w v l)(W:Vars w):Calls Tryz.prog 90 #[v] w (xvO w (Ez l).1 (Ez l).2):=by
 obtain⟨ad,cap,rfl,h2,h3,h4,h5,Y⟩:=p;have s:=BG w (qO) (qC #[qS ad l.length cap,.bool false] 197)
 have V:RdS (w.heap.size+1) ((w.alloc (qO)).alloc (qC #[qS ad l.length cap,.bool false] 197)) (some l):=by
  refine⟨⟨ad,cap,?_,h2,h3,h4,h5,λi x hx=>?_⟩,(W.from.on s).mono Zo⟩
  ·have:=BH (w.alloc (qO)) (qC #[qS ad l.length cap,.bool false] 197);simpa using this
  obtain⟨b,o,e,L,hc⟩:=Y i x hx;exact⟨b,o,e,by omega,Bf s hc⟩
 have q:PaS w ((w.alloc (qO)).alloc (qC #[qS ad l.length cap,.bool false] 197)):=⟨by rw[Below.heap_alloc _ _ _ (by simp)];exact BH w _,s⟩
 have M:Hid (∀X d,RdR Ms (some l) X d->(d=none->Ez l=(⟨[],[],0⟩,2))/\(∀r,d=some r->r≠[]->Ez l=(⟨[],[],0⟩,2))/\(d=some []->Ez l=if BM X=0 then (X,0) else (⟨[],[],0⟩,BM X))):=λX d K=>by
  rcases K.cases with ⟨l',r,e,T,rfl⟩ | ⟨rfl,T⟩
  ·cases e;unfold Ez;rw[T];refine⟨(λe=>by cases e),λr' e U=>?_,λe=>?_⟩
   ·cases e
    cases r with
    | nil=>exact absurd rfl U
    | cons a r=>rfl
   cases e;rfl
  unfold Ez;rw[T l rfl];exact⟨λ_=>rfl,(λr e=>by cases e),(λe=>by cases e)⟩
 generalize Ez l=R at *;clear Y s W;go_enter Tryz.func90,Tryz.ntmps90;go_upto_region 2 with (fail);generalize ((w.alloc (qO)).alloc (qC #[qS ad l.length cap,.bool false] 197))=W0 at *;have a0:=V.lt;go_wp2_with (go_at_call 117;refine (xv4 V).mono ?_;rintro e w1 ⟨X,cv,hv,d,rfl,u,t,K,D,g⟩;refine Hid.out ?_);refine Lib.hid ?_;obtain⟨j,m,h⟩:=M.out X d K;have HA:=hid j;have HB:=hid m;have H:=hid h;clear j m h;replace q:PaS w w1:=⟨(g.oth _ Zo Zo).trans q.res,q.bel.trans (g.bel.mono Zo)⟩
 replace u:=u.mono (Q:=λb=>w.heap.size+2<=b) Bw λb p=>by omega
 replace t:=t.mono (Q:=λb=>w.heap.size+2<=b) BB λb p=>by omega
 obtain⟨ac,cc,rfl⟩:=u.get;obtain⟨ah,ch,rfl⟩:=t.get;have y:=Bg w1 (qA ac cc ah ch X);have C:=BH w1 (qA ac cc ah ch X);replace q:=q.later y;replace u:=u.later Bw y;replace t:=t.later BB y;replace D:=D.later y;clear y V g K M;go_upto_region 3 with (fail);generalize (w1.alloc (qA ac cc ah ch X))=W1 at *;generalize w1.heap.size=bx at *;have z0:W1.cell? (O w.heap.size 0)=some (qN):=q.z 0;have z1:W1.cell? (O w.heap.size 1)=some (qN):=q.z 1;have z2:W1.cell? (O w.heap.size 2)=some (J 0):=q.z 2;have zf:=BN q.res;have x0:W1.cell? (O bx 0)=some (qS ac X.cz.length cc):=by rw[Bn C];rfl
 have x1:W1.cell? (O bx 1)=some (qS ah X.heap.length ch):=by rw[Bn C];rfl
 have x2:W1.cell? (O bx 2)=some (J X.ez):=by rw[Bn C];rfl
 have G:Hid (∀w2,qY W1 w2->∀n,R=(⟨[],[],0⟩,n)->xvO w R.1 R.2 (.returned (.tuple #[WV (qN) (qN) 0,J n])) (w2.setCells w.heap.size 0 [qN,qN,J 0])):=λw2 p n K=>by
  rw[K];exact⟨_,_,rfl,xuh _ _ _ _ _,xuh _ _ _ _ _,⟨(q.later p).bel.os,(q.later p).bel.tape,(q.later p).bel.output,by rw[Ks];exact (q.later p).bel.size,λb L=>(Er Zo _ _ _).trans ((q.later p).bel.block b L)⟩⟩
 cases d with
 | none=>
  have f:W1.heap[w.heap.size+1]?=some (qC #[qN,.bool true] 197 (0,0)):=D.at_;have c1:W1.cell? (O (w.heap.size+1) 1)=some (.bool true):=by rw[Bn f];rfl
  have B:=hid (G.out W1 (Br _ _) 2 (HA.out rfl));clear u t G C x0 x1 x2;go_wp2;refine Bt (v:=.tuple #[WV (qN) (qN) 0,J 2]) ?_ rfl B.out;simp[results,Tryz.results90,go_sem,z0,z1,z2]
 | some r=>
  obtain⟨a2,c2,f,-⟩:=D.at_;have c0:W1.cell? (O (w.heap.size+1) 0)=some (qS a2 r.length c2):=by rw[Bn f];rfl
  have c1:W1.cell? (O (w.heap.size+1) 1)=some (.bool false):=by rw[Bn f];rfl
  by_cases hr:r=[]
  ·subst hr;replace H:=hid (H.out rfl);have c0':W1.cell? (O (w.heap.size+1) 0)=some (qS a2 0 c2):=c0;clear c0;by_cases hre:BM X=0
   ·have N:Calls Tryz.prog 118 #[qV ac cc ah ch X] W1 λe w'=>e=.returned (J 0)/\qY W1 w':=by have:=xuX X _ _ W1 u t;rw[hre] at this;exact this
    have B:Hid (∀w2,qY W1 w2->xvO w R.1 R.2 (.returned (.tuple #[qV ac cc ah ch X,J 0])) (w2.setCells w.heap.size 0 [qS ac X.cz.length cc,qS ah X.heap.length ch,J X.ez])):=λw2 p=>by
     rw[H.out,if_pos hre];have k:Keeps (λb=>w.heap.size+2<=b) w2 (w2.setCells w.heap.size 0 [qS ac X.cz.length cc,qS ah X.heap.length ch,J X.ez]):=Keeps.of_block λb p L=>Er Zo _ _ _;exact⟨_,_,rfl,(u.later Bw p).keep Bw k λb p=>by omega,(t.later BB p).keep BB k λb p=>by omega,⟨(q.later p).bel.os,(q.later p).bel.tape,(q.later p).bel.output,by rw[Ks];exact (q.later p).bel.size,λb L=>(Er Zo _ _ _).trans ((q.later p).bel.block b L)⟩⟩
    have F:=hid (λw2 p=>q.later (w2:=w2) p);clear u t G hre H;go_wp2_with (go_at_call 118;refine N.mono ?_;rintro e w2 ⟨rfl,c⟩;refine Hid.out ?_);refine Lib.hid ?_;replace z0:=Bf c z0;replace z1:=Bf c z1;replace z2:=Bf c z2;replace x0:=Bf c x0;replace x1:=Bf c x1;replace x2:=Bf c x2;clear zf;have zf:=BN (F.out w2 c).res;replace B:=hid (B.out w2 c);clear c0' c1 N c;go_wp2;refine Bt (v:=.tuple #[qV ac cc ah ch X,J 0]) ?_ rfl B.out;simp[results,Tryz.results90,go_sem,z0,z1,z2]
   obtain⟨n,S⟩:∃n,n=BM X:=⟨_,rfl⟩;have N:Calls Tryz.prog 118 #[qV ac cc ah ch X] W1 λe w'=>e=.returned (J n)/\qY W1 w':=by have:=xuX X _ _ W1 u t;rw[← S] at this;exact this
   have a1:(n != 0)=true:=by rw[S];simpa using hre
   have B:Hid (∀w2,qY W1 w2->xvO w R.1 R.2 (.returned (.tuple #[WV (qN) (qN) 0,J n])) (w2.setCells w.heap.size 0 [qN,qN,J 0])):=λw2 p=>G.out w2 p n (by rw[H.out,if_neg hre,S]);have F:=hid (λw2 p=>q.later (w2:=w2) p);clear u t G hre H S;go_wp2_with (go_at_call 118;refine N.mono ?_;rintro e w2 ⟨rfl,c⟩;refine Hid.out ?_);refine Lib.hid ?_;replace z0:=Bf c z0;replace z1:=Bf c z1;replace z2:=Bf c z2;clear zf;have zf:=BN (F.out w2 c).res;replace B:=hid (B.out w2 c);clear c0' c1 N c x0 x1 x2;go_wp2;refine Bt (v:=.tuple #[WV (qN) (qN) 0,J n]) ?_ rfl B.out;simp[results,Tryz.results90,go_sem,z0,z1,z2]
  have Z:(0:Int)<(r.length:Int):=by have:=List.length_pos_iff.2 hr;omega
  have B:=hid (G.out W1 (Br _ _) 2 (HB.out r rfl hr));clear u t G C x0 x1 x2 hr;go_wp2;refine Bt (v:=.tuple #[WV (qN) (qN) 0,J 2]) ?_ rfl B.out;simp[results,Tryz.results90,go_sem,z0,z1,z2]
abbrev ByC:CT UInt8:=λ_ _ f x=>f 0=some (.int .u8 (x.toNat:Int))
theorem xxa:Good ByC 1 where
 move h _ _ hf:=hf 0 (by omega) _ h
 there h k hk:=by
  obtain rfl:k=0:=by omega
  exact⟨_,h,rfl⟩
 pos:=by omega
def SvAt (P:Nat->Prop)(w:qW)(v:Value)(l:List UInt8):Prop:=IsRow ByC 1 1 P w v l/\∀n cap,v=qS none n cap->cap=0
theorem SvAt.keep {P Q:Nat->Prop}{w w':qW}{v:Value}{l:List UInt8}(h:SvAt P w v l)(c:Keeps P w w')(a:∀b,P b->Q b):SvAt Q w' v l:=⟨h.1.keep xxa c a,h.2⟩
theorem SvAt.nil {P:Nat->Prop}{w:qW}:SvAt P w (qN) []:=⟨xuh ByC 1 1 P w,λn cap h=>by cases h;rfl⟩
theorem SvAt.bytes {P:Nat->Prop}{w:qW}{v:Value}{l:List UInt8}(h:SvAt P w v l):BytesIn w v l:=by
 obtain⟨⟨ad,cap,rfl,a,f,j,c⟩,d⟩:=h;refine⟨ad,cap,rfl,a,f,λe=>d _ _ (by rw[e]),by omega,λi x g=>?_⟩;obtain⟨b,o,e1,e2,e3⟩:=c i x g;replace e3:w.cell? (O b (o+i*1+0))=some (.int .u8 (x.toNat:Int)):=e3;rw[Nat.mul_one,Nat.add_zero] at e3;exact⟨b,o,e1,World.block_lt_of_cell? w _ e3,e3⟩
theorem SvAt.get {P:Nat->Prop}{w:qW}{v:Value}{l:List UInt8}(h:SvAt P w v l):∃ad cap,v=qS ad l.length cap:=by
 obtain⟨⟨ad,cap,rfl,-⟩,-⟩:=h;exact⟨ad,cap,rfl⟩
theorem xuV {w:qW}{B:Nat}{v:Value}{l:List UInt8}(h:w.ownsRow B 5 1 v l.length (Lib.byteCells l))(q:l.length<=140737488351232):SvAt (λb=>B<=b/\b<w.heap.size) w v l:=by
 obtain⟨p,⟨rfl,k⟩ | ⟨g,cap,cur,rfl,o,a,j,f,s,m⟩⟩:=h
 ·obtain rfl:l=[]:=List.eq_nil_of_length_eq_zero k;exact SvAt.nil
 refine⟨⟨some (O g 0),cap,rfl,j,f,by omega,λi x d=>⟨g,0,rfl,⟨o,By a⟩,?_⟩⟩,λn c e=>by cases e⟩;show w.cell? (O g (0+i*1+0))=_;rw[Bn a];simp only[Nat.zero_add,Nat.mul_one,Nat.add_zero];have r:i<l.length:=(List.getElem?_eq_some_iff.1 d).1;have e:(cur.toList.take (l.length*1))[i]?=(Lib.byteCells l)[i]?:=by rw[m]
 rw[List.getElem?_take,if_pos (by omega)] at e;rw[← Array.getElem?_toList,e];simp[Lib.byteCells,d]
theorem xuz {P:Program}(w:qW)(t ty e:TypeId)(i:TypeInfo)(a:P.underlying t=some (.slice e))(c:P.info? e=some i)(ad:Option Addr)(cap:Nat) :
  (Builtin.append_ #[t,t] ty #[qN,qS ad 0 cap]).run P w=.ok (qN) w:=by
 have b:∀(x:Addr),(loadCells x 0).run P w=.ok #[] w:=λx=>by simpa using run_loadCells_list (P:=P) w x [] (by simp)
 cases ad<;>simp[Builtin.append_,run_underlying a,sizeOf,typeInfo,c,Builtin.lenOf,Builtin.firstCells,storeCells,b]
theorem xve {P:Nat->Prop}{w:qW}{sv:Value}{l:List UInt8}(h:SvAt P w sv l):∃sv' w',(Builtin.append_ #[29,29] 29 #[qN,sv]).run Tryz.prog w=.ok sv' w'/\SvAt (λb=>w.heap.size<=b/\b<w'.heap.size) w' sv' l/\qY w w':=by
 obtain⟨⟨ad,cap,rfl,r,t,v,g⟩,s⟩:=h;obtain⟨i0,i,e,d,c⟩:=Gb xxD;by_cases h0:l=[]
 ·subst h0;exact⟨_,w,xuz w 29 29 5 i0 Tryz.underlying29 i ad cap,SvAt.nil,.refl _ _⟩
 have f:0<l.length:=List.length_pos_iff.2 h0;obtain⟨b,o,rfl,-,-⟩:=g 0 l[0] (by simp[f])
 obtain⟨v',w',a,r1,r2,-⟩:=run_append_own (P:=Tryz.prog) w w.heap.size 29 29 5 i0 _ 1 1 Tryz.underlying29 i e d c rfl (by decide) (qN) 0 [] (World.ownsRow_nil w _ 5 1) (O b o) l.length cap (Lib.byteCells l) (by simp[Lib.byteCells]) (λj u m=>by
  simp only[Lib.byteCells,List.getElem?_map,Option.map_eq_some_iff] at m;obtain⟨x,q,rfl⟩:=m;obtain⟨b',o',e1,-,e3⟩:=g j x q
  cases e1;replace e3:w.cell? (O b (o+j*1+0))=some (.int .u8 (x.toNat:Int)):=e3;rw[Nat.mul_one,Nat.add_zero] at e3;rw[Addr.add_lit];exact e3) (λu n=>by
  simp only[Lib.byteCells,List.mem_map] at n;obtain⟨x,-,rfl⟩:=n;rfl) (by omega) (by omega) (Bq _)
 refine⟨v',w',a,xuV (by simpa using r1) (by omega),(Br _ _).grown r2 (Bq _) λk p=>by cases p⟩
end Go.Proofs.YtbafokihegegiaaGreatDoor
