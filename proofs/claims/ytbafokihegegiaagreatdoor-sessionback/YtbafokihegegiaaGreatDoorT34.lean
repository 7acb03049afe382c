/- A part. -/
import Derived.Test.YtbafokihegegiaaGreatDoorT33
import Derived.Stop.LaidErr
import Derived.LaidMore
import Derived.Stop.Joined
namespace Go.Proofs.YtbafokihegegiaaGreatDoor
open Go.ChangeShapes Go.WideShapes Go.ChangeAt Go.RowKit
set_option linter.unusedSimpArgs false
set_option linter.unusedVariables false
set_option maxHeartbeats 8000000
set_option maxRecDepth 8000
structure LoQ (Q:StE->Prop)(s0:Sn)(i0 n0:Nat)(P:Nat->Prop)(W0:qW)(bb:Nat)(j:Nat)(wr:qW)(s:Sn):Prop where
 st:∃L,s=Ek s0 L/\L.length<=j/\∀x∈L,Q x
 inv:SInv (i0+j) s
 few:Hg s (400+401*(n0-j))
 kp:Kp (λt=>t=3) (Gd bb) W0 wr
 has:HasS P wr bb s
theorem xv2 (s:Sn)(L:List StE)(x:StE):Ek s (L++[x])=(Cg (Ek s L) x).1:=by unfold Ek;rw[List.foldl_append];rfl
theorem LoQ.skip {Q:StE->Prop}{s0:Sn}{i0 n0:Nat}{P:Nat->Prop}{W0:qW}{bb j:Nat}{wr W:qW}{s:Sn}(h:LoQ Q s0 i0 n0 P W0 bb j wr s)(n:j<n0)(c:qY wr W):LoQ Q s0 i0 n0 P W0 bb (j+1) W s:=by
 obtain⟨⟨L,e,m,l⟩,f,g,a,k⟩:=h;exact⟨⟨L,e,by omega,l⟩,f.later (by omega),g.mono (by omega),⟨c.os.trans a.os,c.tape.trans a.tape,c.output.trans a.output,BX a.size c.size,λb d i=>(c.block b (by have:=a.size;omega)).trans (a.blk b d i)⟩,k.later c⟩
theorem LoQ.next {Q:StE->Prop}{s0:Sn}{i0 n0:Nat}{P:Nat->Prop}{W0:qW}{bb j n:Nat}{wr Z Y:qW}{s:Sn}{x:StE}{cv hv lv tv sv:Value}(h:LoQ Q s0 i0 n0 P W0 bb j wr s)(C:j<n0)(D:i0+n0<1000)(u:Q x)(l:qY wr Z)
  (d:SesAt (λb=>n<=b) Z cv hv lv tv (Cg s x).1) (c:SvAt (λb=>n<=b) Z sv (Cg s x).1.saved) (g:Chg bb Z Y) (v:Y.heap[bb]?=some (DR cv hv (Cg s x).1.X.ez lv tv sv)) (a:bb<n) (f:bb<W0.heap.size) (q:∀b,n<=b->P b):LoQ Q s0 i0 n0 P W0 bb (j+1) Y (Cg s x).1:=by
 obtain⟨⟨L,r,F,B⟩,p,t,k,G⟩:=h;have a1:=l.size;have a2:=g.size;have a3:=k.size;refine⟨⟨L++[x],by rw[xv2,← r],by simp;omega,λy z=>?_⟩,(Nd p (by omega) x).inv.later (by omega),xsc p (t.mono (by omega)) x,⟨g.os.trans (l.os.trans k.os),g.tape.trans (l.tape.trans k.tape),g.output.trans (l.output.trans k.output),by omega,λb o i=>?_⟩,(xxE d c g v a).mono λb h _=>q b h⟩
 ·rcases List.mem_append.1 z with h | h
  ·exact B y h
  obtain rfl:=List.mem_singleton.1 h;exact u
 have m:b≠bb:=λe=>i (by rw[e];exact xgK bb);rw[g.blk b m,l.block b (by omega),k.blk b o i]
theorem xvJ {sb:Nat}{w W0 wr:qW}(h:Kp (λt=>t=3) (Gd sb) W0 wr)(a:qY w W0)(d:w.heap.size<=sb):qY w wr:=by
 have a1:=a.size;have a2:=h.size;exact⟨h.os.trans a.os,h.tape.trans a.tape,h.output.trans a.output,by omega,λb c=>(h.blk b (by omega) (by rw[Eb (by omega)];omega)).trans (a.block b c)⟩
theorem xw2 {P Q:Nat->Prop}(l m:List StE)(v u:Value)(w:qW)(hl:Ps P w v l)(hm:Ps Q w u m)(hV:Vars w):Calls Tryz.prog 6 #[v,u] w λe w'=>e=.returned (.bool true)/\qY w w':=by
 have br:=xxF w hV;obtain⟨ad,cap,rfl,aq,ao,au,a3⟩:=hl;obtain⟨ae,b5,rfl,b0,ap,aw,F⟩:=hm;go_enter Tryz.func6,Tryz.ntmps6;go_wp2_with fail;refine br.mono ?_;rintro e W ⟨rfl,hb⟩;by_cases h100:100<l.length+m.length
 ·have c0:(100:Int)<(l.length:Int)+(m.length:Int):=by omega
  clear a3 F br;go_wp2;refine Bt (v:=.bool true) ?_ rfl ⟨rfl,hb⟩;simp[results,Tryz.results6,go_sem]
 have c0:¬ (100:Int)<(l.length:Int)+(m.length:Int):=by omega
 go_wp2_with fail;refine (xpJ W).mono ?_;rintro e W1 ⟨cv,hv,rfl,hS,hk⟩;obtain⟨c1,c2,rfl,-⟩:=id hS.c;obtain⟨h1,h2,rfl,-⟩:=id hS.h;have c7:HasS (λb=>w.heap.size<=b) (W1.alloc (qC #[qS c1 xlV.cz.length c2,qS h1 xlV.heap.length h2,J 0,qN,qN,qN] 31)) W1.heap.size xcU:=xwj (n:=w.heap.size) (s:=xcU) (sv:=qN) (hS.keep (Keeps.refl _ _) λb h=>by have:=hb.size;omega) SvAt.nil;replace hb:=Bh hb hk;have bg:=Bg W1 (qC #[qS c1 xlV.cz.length c2,qS h1 xlV.heap.length h2,J 0,qN,qN,qN] 31);have cl:=hb.size;replace hb:=Bh hb bg;have bn:=Nat.lt_of_lt_of_eq (Nat.lt_succ_self W1.heap.size) (show W1.heap.size+1=(W1.alloc (qC #[qS c1 xlV.cz.length c2,qS h1 xlV.heap.length h2,J 0,qN,qN,qN] 31)).heap.size by simp);clear hS hk bg br;go_upto_region 6 with (fail);generalize (W1.alloc (qC #[qS c1 xlV.cz.length c2,qS h1 xlV.heap.length h2,J 0,qN,qN,qN] 31))=W2 at *;generalize W1.heap.size=sb at *;go_wp2
 go_loopg [24] l.length (λg c wr=>∃(j:Nat) (s:Sn),j+g=l.length/\c=J j/\LoQ (λ_=>True) xcU 0 400 (λb=>w.heap.size<=b) W2 sb j wr s)
 case atStart=>exact⟨0,xcU,by omega,rfl,⟨[],rfl,Bq _,λx hx=>by cases hx⟩,xiT,xqO.mono (by omega),⟨rfl,rfl,rfl,Bq _,λ_ _ _=>rfl⟩,c7⟩
 case round=>
  obtain⟨j,s,hj,rfl,hP⟩:=hrel;clear c7;have HP:=hid hP;have b6:=xvJ hP.kp hb cl;obtain⟨cv,hv,lv,tv,sv,b9,hS,p⟩:=id hP.has;clear hP;obtain⟨pa,pb,rfl,-⟩:=id hS.c;obtain⟨pc,pd,rfl,-⟩:=id hS.h;obtain⟨pe,pf,rfl,-⟩:=id hS.l;obtain⟨pg,ph,rfl,-⟩:=id hS.t;have bq:=HP.out.kp.size;have ci:l.length+m.length<=100:=by omega
  by_cases hlt:j<l.length
  ·clear F;obtain⟨b,o,rfl,-,B,S,K,T,a1,a2,N,M,a4,y,q,hN,mv,av,a0,hM,z,hA⟩:=a3 j l[j] (by simp[hlt]);generalize l[j]=x at *;simp only[Nat.add_zero] at B;have u0:=Bf b6 B;have u1:=Bf b6 S;have u2:=Bf b6 K;have u3:=Bf b6 T;have u4:=Bf b6 a1;have u5:=Bf b6 a2;have u6:=Bf b6 N;have u7:=Bf b6 M;have u8:=Bf b6 a0;have u9:=Bf b6 a4;have u10:=Bf b6 y;have u11:=Bf b6 q;have u12:=Bf b6 z;replace hM:=hM.later BR b6;replace hA:=hA.later BZ b6;obtain⟨am,cm,rfl,-⟩:=id hM;obtain⟨aa,ca,rfl,-⟩:=id hA;clear B S K T a1 a2 N M a0 a4 y q z;have ce:(j:Int)<(l.length:Int):=by omega
   have cf:(0:Int)<=(j:Int):=by omega
   have b8:=Bg wr (qB x am cm aa ca);have ba:=Pb s HP.out.inv (by omega) (HP.out.few.mono (by omega)) x hN (qS pa s.X.cz.length pb) (qS pc s.X.heap.length pd) (qS pe s.cells.length pf) (qS pg s.ts.length ph) sv _ _ _ (hS.keep (Keeps.of_below b8) λ_ h=>h) (p.keep (Keeps.of_below b8) λ_ h=>h) ((hV.from.on (b6.trans (b8.mono b6.size))).mono (BX b6.size b8.size)) (hM.later BR b8) (hA.later BZ b8);have b7:=Bs b9 b8;have bk:(wr.alloc (qB x am cm aa ca)).heap[wr.heap.size]?=some (qB x am cm aa ca):=BH _ _;have c8:(wr.alloc (qB x am cm aa ca)).heap.size=wr.heap.size+1:=by simp
   have bu:=By b9;have bp:=b6.size;clear b9 hS p hM hA;have bo:j<400:=by omega
   have HN:=hid (λ(Z Y:qW) (cv hv lv tv sv:Value) (h1:Below (wr.alloc (qB x am cm aa ca)).heap.size (wr.alloc (qB x am cm aa ca)) Z) h2 h3 h4 h5=>LoQ.next (x:=x) (n:=(wr.alloc (qB x am cm aa ca)).heap.size) (cv:=cv) (hv:=hv) (lv:=lv) (tv:=tv) (sv:=sv) (Z:=Z) (Y:=Y) HP.out bo (by omega) trivial (Bh b8 h1) h2 h3 h4 h5 (by omega) bn (λb h=>by omega));go_upto_region 9 with (fail);clear u0 u1 u2 u3 u4 u5 u6 u7 u8 u9 u10 u11 u12 b8;generalize wr.alloc (qB x am cm aa ca)=V at *;obtain⟨-,s0,s1,s2,s3,s4,s5⟩:=EH b7;obtain⟨p0,p1,p2,p3,p4,p5,p6,p7,p8,p9,a8,a5,a7⟩:=QN bk;have c3:=BN b7;generalize Cg s x=R at *;go_wp2_with fail;refine ba.mono ?_;rintro e Z ⟨a9,a6,ag,ab,af,rfl,a,f,d⟩;obtain⟨qa,qb,rfl,-⟩:=id a.c;obtain⟨qc,qd,rfl,-⟩:=id a.h;obtain⟨qe,qf,rfl,-⟩:=id a.l;obtain⟨qg,qh,rfl,-⟩:=id a.t;obtain⟨qi,qj,rfl⟩:=f.get;clear s0 s1 s2 s3 s4 s5 p0 p1 p2 p3 p4 p5 p6 p7 p8 p9 a8 a5 a7 ba c3;replace b7:=Bs b7 d;obtain⟨sf,s0,s1,s2,s3,s4,s5⟩:=EH b7;obtain⟨hY,i⟩:=Mm b7 (qS qa R.1.X.cz.length qb) (qS qc R.1.X.heap.length qd) (J R.1.X.ez) (qS qe R.1.cells.length qf) (qS qg R.1.ts.length qh) (qS qi R.1.saved.length qj);have HF:=hid (HN.out Z _ _ _ _ _ _ d a f i hY);clear a f i hY HN b7 d bk;go_wp2
   go_roundg (gk-1)
   case measure=>omega
   case rel=>exact⟨j+1,R.1,by omega,by go_num,HF.out⟩
  obtain rfl:j=l.length:=by omega
  clear a3;have hI:=HP.out.inv;have hF:=HP.out.few;have be:=HP.out.has;rw[Nat.zero_add] at hI;clear HP bq;have ba:=Pb (Q:=λ_=>True) s hI (by omega) (hF.mono (by omega)) (EM 7 0 0 noB BC noB []) NH (qS pa s.X.cz.length pb) (qS pc s.X.heap.length pd) (qS pe s.cells.length pf) (qS pg s.ts.length ph) sv (qN) (qN) wr hS p ((hV.from.on b6).mono b6.size) Gq Gq;have bu:=By b9;obtain⟨-,s0,s1,s2,s3,s4,s5⟩:=EH b9;have c4:=hid (λ(L:List StE) (h1:∀x∈L,x.kind≠7) (h2:l.length+L.length<=900)=>xwp hI L h1 h2 (EM 7 0 0 noB BC noB []) (EM 8 0 0 noB BC noB []) rfl rfl);have c9:=hid (Nd hI (by omega) (EM 7 0 0 noB BC noB [])).inv;have c5:=hid (xsc hI (n:=400+401*200) (hF.mono (by omega)) (EM 7 0 0 noB BC noB []));have cj:Hid ((Cg s (EM 7 0 0 noB BC noB [])).2.err=0):=(xwp hI [] (λx hx=>by cases hx) (by simp;omega) (EM 7 0 0 noB BC noB []) (EM 8 0 0 noB BC noB []) rfl rfl).1
  generalize Cg s (EM 7 0 0 noB BC noB [])=R at *;clear hS p;go_wp2_with fail;refine ba.mono ?_;rintro e Z ⟨a9,a6,ag,ab,af,rfl,a,f,d⟩;obtain⟨qa,qb,rfl,-⟩:=id a.c;obtain⟨qc,qd,rfl,-⟩:=id a.h;obtain⟨qe,qf,rfl,-⟩:=id a.l;obtain⟨qg,qh,rfl,-⟩:=id a.t;obtain⟨qi,qj,rfl⟩:=f.get;clear s0 s1 s2 s3 s4 s5 ba;have bg:=BG Z (qF R.1 qa qb qc qd qe qf qg qh (qS qi R.1.saved.length qj)) (qT R.2);have hT:=(xwj a f).later (Bg _ (qT R.2));have bv:((Z.alloc (qF R.1 qa qb qc qd qe qf qg qh (qS qi R.1.saved.length qj))).alloc (qT R.2)).heap[Z.heap.size+1]?=some (qT R.2):=Dh _ _ _ (by simp);have bx:=((be.later d).mono (Q:=λb=>b<Z.heap.size) λb _ h=>h).later bg;have c6:=Bh (Bh b6 d) bg;have c8:((Z.alloc (qF R.1 qa qb qc qd qe qf qg qh (qS qi R.1.saved.length qj))).alloc (qT R.2)).heap.size=Z.heap.size+2:=by simp
  have bp:=b6.size;have cr:=d.size;go_upto_region 12 with (fail);clear a f bg d be b6 b9;generalize ((Z.alloc (qF R.1 qa qb qc qd qe qf qg qh (qS qi R.1.saved.length qj))).alloc (qT R.2))=W3 at *;generalize Z.heap.size=tb at *;generalize wr.heap.size=n1 at *;obtain⟨rf,r0,r1,r2,r3⟩:=Ec bv;rw[cj.out] at r0;clear bn;have bn:tb<W3.heap.size:=by omega
  go_wp2
  go_loopg [46] m.length (λg c wr=>∃(j:Nat) (t:Sn),j+g=m.length/\c=J j/\LoQ (λx=>x.kind≠7) R.1 (l.length+1) 200 (λb=>n1<=b) W3 tb j wr t)
  case atStart=>exact⟨0,R.1,by omega,rfl,⟨[],rfl,Bq _,λx hx=>by cases hx⟩,c9.out,c5.out,⟨rfl,rfl,rfl,Bq _,λ_ _ _=>rfl⟩,hT⟩
  case round=>
   clear rf r0 r1 r2 r3;obtain⟨j,t,hj,rfl,hP⟩:=hrel;have HP:=hid hP;have b6:=xvJ hP.kp c6 (by omega);obtain⟨cv,hv,lv,tv,sv,b9,hS,p⟩:=id hP.has;clear hP hT;obtain⟨pa,pb,rfl,-⟩:=id hS.c;obtain⟨pc,pd,rfl,-⟩:=id hS.h;obtain⟨pe,pf,rfl,-⟩:=id hS.l;obtain⟨pg,ph,rfl,-⟩:=id hS.t;have bq:=HP.out.kp.size;by_cases hlt:j<m.length
   ·clear c4 bx;obtain⟨b,o,rfl,-,B,S,K,T,a1,a2,N,M,a4,y,q,hN,mv,av,a0,hM,z,hA⟩:=F j m[j] (by simp[hlt]);generalize m[j]=x at *;simp only[Nat.add_zero] at B;have u0:=Bf b6 B;have u1:=Bf b6 S;have u2:=Bf b6 K;have u3:=Bf b6 T;have u4:=Bf b6 a1;have u5:=Bf b6 a2;have u6:=Bf b6 N;have u7:=Bf b6 M;have u8:=Bf b6 a0;have u9:=Bf b6 a4;have u10:=Bf b6 y;have u11:=Bf b6 q;have u12:=Bf b6 z;replace hM:=hM.later BR b6;replace hA:=hA.later BZ b6;obtain⟨am,cm,rfl,-⟩:=id hM;obtain⟨aa,ca,rfl,-⟩:=id hA;clear B S K T a1 a2 N M a0 a4 y q z;have ce:(j:Int)<(m.length:Int):=by omega
    have cf:(0:Int)<=(j:Int):=by omega
    have b8:=Bg wr (qB x am cm aa ca);have ba:=Pb t HP.out.inv (by omega) (HP.out.few.mono (by omega)) x hN (qS pa t.X.cz.length pb) (qS pc t.X.heap.length pd) (qS pe t.cells.length pf) (qS pg t.ts.length ph) sv _ _ _ (hS.keep (Keeps.of_below b8) λ_ h=>h) (p.keep (Keeps.of_below b8) λ_ h=>h) ((hV.from.on (b6.trans (b8.mono b6.size))).mono (BX b6.size b8.size)) (hM.later BR b8) (hA.later BZ b8);have b7:=Bs b9 b8;have bk:(wr.alloc (qB x am cm aa ca)).heap[wr.heap.size]?=some (qB x am cm aa ca):=BH _ _;have c8:(wr.alloc (qB x am cm aa ca)).heap.size=wr.heap.size+1:=by simp
    have bu:=By b9;have bp:=b6.size;clear b9 hS p hM hA;have bo:j<200:=by omega
    have HK:=hid (LoQ.skip HP.out bo b8);have HN:=hid (λ(hq:x.kind≠7) (Z Y:qW) (cv hv lv tv sv:Value) (h1:Below (wr.alloc (qB x am cm aa ca)).heap.size (wr.alloc (qB x am cm aa ca)) Z) h2 h3 h4 h5=>LoQ.next (x:=x) (n:=(wr.alloc (qB x am cm aa ca)).heap.size) (cv:=cv) (hv:=hv) (lv:=lv) (tv:=tv) (sv:=sv) (Z:=Z) (Y:=Y) HP.out bo (by omega) hq (Bh b8 h1) h2 h3 h4 h5 (by omega) bn (λb h=>by omega));go_upto_region 17 with (fail);clear u0 u1 u2 u3 u4 u5 u6 u7 u8 u9 u10 u11 u12 b8;generalize wr.alloc (qB x am cm aa ca)=V at *;obtain⟨-,s0,s1,s2,s3,s4,s5⟩:=EH b7;obtain⟨p0,p1,p2,p3,p4,p5,p6,p7,p8,p9,a8,a5,a7⟩:=QN bk;have c3:=BN b7;by_cases hk7:x.kind=7
    ·rw[hk7] at p0;clear ba HN;go_wp2;go_roundg (gk-1)
     case measure=>omega
     case rel=>exact⟨j+1,t,by omega,by go_num,HK.out⟩
    replace HN:=hid (HN.out hk7);clear HK;generalize Cg t x=R at *;go_wp2_with fail;refine ba.mono ?_;rintro e Z ⟨a9,a6,ag,ab,af,rfl,a,f,d⟩;obtain⟨qa,qb,rfl,-⟩:=id a.c;obtain⟨qc,qd,rfl,-⟩:=id a.h;obtain⟨qe,qf,rfl,-⟩:=id a.l;obtain⟨qg,qh,rfl,-⟩:=id a.t;obtain⟨qi,qj,rfl⟩:=f.get;clear s0 s1 s2 s3 s4 s5 p0 p1 p2 p3 p4 p5 p6 p7 p8 p9 a8 a5 a7 ba c3;replace b7:=Bs b7 d;obtain⟨sf,s0,s1,s2,s3,s4,s5⟩:=EH b7;obtain⟨hY,i⟩:=Mm b7 (qS qa R.1.X.cz.length qb) (qS qc R.1.X.heap.length qd) (J R.1.X.ez) (qS qe R.1.cells.length qf) (qS qg R.1.ts.length qh) (qS qi R.1.saved.length qj);have HF:=hid (HN.out Z _ _ _ _ _ _ d a f i hY);clear a f i hY HN b7 d bk;go_wp2;go_roundg (gk-1)
    case measure=>omega
    case rel=>exact⟨j+1,R.1,by omega,by go_num,HF.out⟩
   obtain rfl:j=m.length:=by omega
   clear F;have cd:=HP.out.inv;have cb:=HP.out.few;have bu:=By b9;obtain⟨L,aj,an,al⟩:=HP.out.st;have hB:=c4.out L al (by omega);rw[← aj] at hB;have bm:=HP.out.kp;have be:=bx.keep (Q:=λb=>b<tb) (λb hb hl=>bm.blk b hl (by rw[Eb (by rcases hb with hb | hb<;>omega)];omega)) bm.size λb h _=>h;have bi:=(bm.blk (tb+1) (by omega) (by rw[Eb (by omega)];omega)).trans bv;clear HP bm bx bv c4 aj an al c9 c5 L;have ba:=Pb (Q:=λ_=>True) t cd (by omega) (cb.mono (by omega)) (EM 8 0 0 noB BC noB []) NH (qS pa t.X.cz.length pb) (qS pc t.X.heap.length pd) (qS pe t.cells.length pf) (qS pg t.ts.length ph) sv (qN) (qN) wr hS p ((hV.from.on b6).mono b6.size) Gq Gq;obtain⟨-,s0,s1,s2,s3,s4,s5⟩:=EH b9;generalize Cg t (EM 8 0 0 noB BC noB [])=R2 at *;obtain⟨⟨⟨b1,ay,H⟩,ai,ak,ah⟩,r⟩:=R2;simp only at hB ba;obtain⟨-,bz,bc,bd,ax⟩:=hB;subst bc bd;replace bz:=hid bz;clear hS p cd cb;go_wp2_with fail;refine ba.mono ?_;rintro e Z ⟨a9,a6,ag,ab,af,rfl,a,f,d⟩;obtain⟨ya,yb,rfl,-⟩:=id a.c;obtain⟨yc,yd,rfl,-⟩:=id a.h;obtain⟨ye,yf,rfl,-⟩:=id a.l;obtain⟨yg,yh,rfl,-⟩:=id a.t;obtain⟨yi,yj,rfl⟩:=f.get;clear s0 s1 s2 s3 s4 s5 ba f;replace b9:=Bs b9 d;replace bi:=Bs bi d;replace be:=be.later d;replace b6:=Bh b6 d
   have co:=d.size;obtain⟨sf,s0,s1,s2,s3,s4,s5⟩:=EH b9;obtain⟨hY,i⟩:=Mm b9 (qS ya s.X.cz.length yb) (qS yc s.X.heap.length yd) (J H) (qS ye ai.length yf) (qS yg ak.length yh) (qS yi ah.length yj);have cc:=i.held bi (by omega);obtain⟨rf,r0,r1,r2,r3⟩:=Ec bi;obtain⟨bj,D⟩:=Fz cc (J r.err) (J r.n) (J r.v.k) (J r.v.n);have bh:=D.held hY (by omega);have bc:=(a.c.keep Bw (i.keeps (by omega)) λ_ h=>h).keep Bw (D.keeps (by omega)) λ_ h=>h;have bd:=(a.h.keep BB (i.keeps (by omega)) λ_ h=>h).keep BB (D.keeps (by omega)) λ_ h=>h;have bl:=(be.keep (Q:=λb=>b<tb) (λb hb hl=>i.blk b (by rcases hb with hb | hb<;>omega)) (Nat.le_of_eq i.size.symm) λb h _=>h).keep (Q:=λb=>b<tb) (λb hb hl=>D.blk b (by rcases hb with hb | hb<;>omega)) (Nat.le_of_eq D.size.symm) λb h _=>h;have bw:=(b6.trans (i.below (by omega))).trans (D.below (n:=w.heap.size) (by omega));have ct:tb≠tb+1:=by omega
   clear a be hY cc bi d b6 b9 i D hV;go_upto_region 21 with (fail);clear sf s0 s1 s2 s3 s4 s5 rf r0 r1 r2 r3;generalize ((((((((((Z.setCell (O tb 0) (qS ya s.X.cz.length yb)).setCell (O tb 1) (qS yc s.X.heap.length yd)).setCell (O tb 2) (J H)).setCell (O tb 3) (qS ye ai.length yf)).setCell (O tb 4) (qS yg ak.length yh)).setCell (O tb 5) (qS yi ah.length yj)).setCell (O (tb+1) 0) (J r.err)).setCell (O (tb+1) 1) (J r.n)).setCell (O (tb+1) 2) (J r.v.k)).setCell (O (tb+1) 3) (J r.v.n))=Y at *;obtain⟨sf,s0,s1,s2,s3,s4,s5⟩:=EH bh;replace bc:=bc.inn Bw λ_ _=>xxV;replace bd:=bd.inn BB λ_ _=>xxU;have bf:=Bg Y (qC #[qS ya s.X.cz.length yb,qS yc s.X.heap.length yd,J H] 26);have bt:(Y.alloc (qC #[qS ya s.X.cz.length yb,qS yc s.X.heap.length yd,J H] 26)).heap[Y.heap.size]?=some (qC #[qS ya s.X.cz.length yb,qS yc s.X.heap.length yd,J H] 26 (0,0)):=BH _ _;have cs:=By bh;have cp:=By bj;replace bh:=Bs bh bf;replace bj:=Bs bj bf;replace bc:=bc.later Bw bf;replace bd:=bd.later BB bf;replace bl:=bl.later bf;replace bw:=Bh bw bf;go_upto_region 22 with (fail)
   clear sf s0 s1 s2 s3 s4 s5 bf;generalize (Y.alloc (qC #[qS ya s.X.cz.length yb,qS yc s.X.heap.length yd,J H] 26))=V at *;generalize Y.heap.size=wb at *;obtain⟨ar,b2,b3,b4,az,G,C,-⟩:=id bl;obtain⟨za,zb,rfl,-⟩:=id C.c;obtain⟨zc,zd,rfl,-⟩:=id C.h;obtain⟨ze,zf,rfl,-⟩:=id C.l;obtain⟨zg,zh,rfl,-⟩:=id C.t;obtain⟨-,s0,s1,s2,s3,s4,s5⟩:=EH G;obtain⟨wf,w0,w1,w2⟩:=Kk bt;have cq:=By G;have hU:(V.setCell (O wb 2) (J s.X.ez)).heap[wb]?=some (qA ya yb yc yd s.X):=by rw[BW bt _];rfl
   have bb:Chg wb V (V.setCell (O wb 2) (J s.X.ez)):=(Chg.refl _ _).set _ _;go_upto_region 23 with (fail);clear s0 s1 s2 s3 s4 s5 wf w0 w1 w2;have ck:=bb.held bh (by omega);have cn:=bb.held bj (by omega);have ch:=bb.held G (by omega);have k1:=bc.keep (Q:=λ_=>True) Bw (bb.keeps (by omega)) λ_ _=>trivial;have k2:=bd.keep (Q:=λ_=>True) BB (bb.keeps (by omega)) λ_ _=>trivial;have k3:=C.c.keep (Q:=λ_=>True) Bw (bb.keeps (by omega)) λ_ _=>trivial;have k4:=C.h.keep (Q:=λ_=>True) BB (bb.keeps (by omega)) λ_ _=>trivial;have cg:=bw.trans (bb.below (n:=w.heap.size) (by omega));clear bc bd C bh bj G bb bl bt;generalize V.setCell (O wb 2) (J s.X.ez)=U at *;have bs:=xwT s.X _ _ _ _ U k1 k2 k3 k4;obtain⟨-,s0,s1,s2,s3,s4,s5⟩:=EH ck;obtain⟨-,t0,t1,t2,t3,t4,t5⟩:=EH ch;obtain⟨-,r0,r1,r2,r3⟩:=Ec cn;obtain⟨-,w0,w1,w2⟩:=Kk hU;rw[bz.out] at r0;go_wp2_with fail;refine bs.mono ?_;rintro e U2 ⟨rfl,hk⟩;go_wp2;refine Bt (v:=.bool true) ?_ rfl ⟨rfl,Bh cg hk⟩;simp[results,Tryz.results6,go_sem]
theorem xxs:Tryz.prog.cellsOf 54=4:=by kernel_rfl
theorem xxw:Tryz.prog.cellsOf 56=13:=by kernel_rfl
theorem xxl:Tryz.prog.bytesOf 56=160:=by kernel_rfl
section
variable {H:Type} {enc:TypeId × Value->H} {w:World} {base:Nat} {spare:Nat->Bool} {held:Bool}
theorem xwr {n:Nat}{cs:List Value}{x:DataW H × List MemPlace}(f:cs.length=4)(h:DataW.trod enc Tryz.prog w base spare held n 54 cs=some x)(d:∀n∈x.1.weights Tryz.prog 54,n<=140737488351232):∃(v:QV) (s:ByteArray) (u:Value) (l:List QV),cs=[J v.k,J v.n,qZ s,u]/\s.size<=140737488351232/\CG KR w u l:=by
 obtain⟨xs,k,m,b,_,a,c⟩:=DataW.trod_struct Tryz.underlying54 h
 match xs,a,cs,f with
 | [y0,y1,y2],_,[v0,v1,v2,v3],_=>
  have g0:=c 0 _ rfl;have g1:=c 1 _ rfl;have g2:=c 2 _ rfl;simp[xwa,xvI,xxA] at g0 g1 g2;rw[b] at d;obtain⟨v,e0,e1⟩:=xvL rfl g0;obtain⟨s,e2,e5,-⟩:=DataW.trod_string Tryz.underlying9 g1;obtain⟨l,i⟩:=xwd g2 (λq g=>d q (Mq (j:=2) (xs:=[y0,y1,y2]) Tryz.underlying54 rfl rfl q g));simp at e0 e1 e2;subst e0 e1 e2
  have e:s.size<=140737488351232:=by
   have:=d s.data.toList.length (Mq (j:=1) (xs:=[y0,y1,y2]) Tryz.underlying54 rfl rfl _ (by rw[e5];simp[DataW.weights]));simpa using this
  exact⟨v,s,v3,l,rfl,e,i⟩
theorem xwD {n:Nat}{cs:List Value}{x:DataW H × List MemPlace}(p:cs.length=13)(h:DataW.trod enc Tryz.prog w base spare held n 56 cs=some x)(g:∀n∈x.1.weights Tryz.prog 56,n<=140737488351232):∃y,xrV KR w (λk=>cs[k]?) y:=by
 obtain⟨xs,k,z,e,_,d,f⟩:=DataW.trod_struct Tryz.underlying56 h
 match xs,d,cs,p with
 | [y0,y1,y2,y3,y4,y5],_,[v0,v1,v2,v3,v4,v5,v6,v7,v8,v9,v10,v11,v12],_=>
  have g0:=f 0 _ rfl;have g1:=f 1 _ rfl;have g2:=f 2 _ rfl;have g3:=f 3 _ rfl;have g4:=f 4 _ rfl;have g5:=f 5 _ rfl;simp[xvE,xvI,xxe,xxs] at g0 g1 g2 g3 g4 g5;rw[e] at g;obtain⟨a,e0,-,-⟩:=DataW.trod_int Tryz.underlying3 g0;obtain⟨s,e1,e6,-⟩:=DataW.trod_string Tryz.underlying9 g1;obtain⟨b,e2,-,-⟩:=DataW.trod_int Tryz.underlying3 g2;obtain⟨c,e3,-,-⟩:=DataW.trod_int Tryz.underlying3 g3;obtain⟨m,m0,m1,m2,m3,mn,u,m4,r⟩:=xwf rfl g4 (λq i=>g q (Mq (j:=4) (xs:=[y0,y1,y2,y3,y4,y5]) Tryz.underlying56 rfl rfl q i));obtain⟨sv,sn,u2,l,e5,t,v⟩:=xwr rfl g5 (λq i=>g q (Mq (j:=5) (xs:=[y0,y1,y2,y3,y4,y5]) Tryz.underlying56 rfl rfl q i));simp at e0 e1 e2 e3 m0 m1 m2 m3 m4 e5;obtain⟨rfl,rfl,rfl,rfl⟩:=e5;subst e0 e1 e2 e3 m0 m1 m2 m3 m4
  have o:s.size<=140737488351232:=by
   have:=g s.data.toList.length (Mq (j:=1) (xs:=[y0,y1,y2,y3,y4,y5]) Tryz.underlying56 rfl rfl _ (by rw[e6];simp[DataW.weights]));simpa using this
  exact⟨⟨a,b,c,s,m,sv,sn,l⟩,rfl,rfl,rfl,rfl,rfl,rfl,rfl,rfl,rfl,rfl,rfl,⟨o,mn,t⟩,_,_,rfl,r,rfl,v⟩
theorem xuU {r:Reach}{b0:Nat}{v:Value}{d:DataW H}{p:List MemPlace}(hv:Value.okWide Tryz.prog w r b0 22 v)(h:DataW.Trod enc Tryz.prog w base spare held 22 v d p)(b:∀n∈d.weights Tryz.prog 22,n<=140737488351232):∃l,Ps KR w v l:=by
 obtain⟨a1,a,cap,rfl⟩:=okWide_slice Tryz.underlying22 hv;obtain⟨fuel,e⟩:=h;exact xu2 MG Tryz.underlying22 xxw xxl (by omega) (λn cs x c h b=>xwD c h b) (x:=(d,p)) (by simpa [Value.cells] using e) b
end
theorem gPow:Tryz.prog.globalNamed "internal/strconv.uint64pow10" = some 0:=by kernel_rfl
theorem xxR:(Tryz.prog.globals[0]?).map (·.type)=some 285:=by kernel_rfl
theorem gSyn:Tryz.prog.globalNamed "strconv.ErrSyntax" = some 1:=by kernel_rfl
theorem xxS:(Tryz.prog.globals[1]?).map (·.type)=some 167:=by kernel_rfl
theorem gRng:Tryz.prog.globalNamed "strconv.ErrRange" = some 2:=by kernel_rfl
theorem xxT:(Tryz.prog.globals[2]?).map (·.type)=some 167:=by kernel_rfl
theorem xvN:Tryz.prog.cellsOf 324=1:=by kernel_rfl
theorem xvC:Tryz.prog.cellsOf 9=1:=by kernel_rfl
theorem xwZ:Tryz.prog.cellsOf 285=20:=by kernel_rfl
theorem xwV:Tryz.prog.cellsOf 248=1:=by kernel_rfl
theorem xxM : "*" ++ "errors.errorString" = "*errors.errorString" := by decide
theorem xw6 (u:TypeId)(h:Tryz.prog.typeName? 3 u=some "*errors.errorString"):u=322:=
 typeName_ptr_named (nm := "errors.errorString") (by rw[xxM];kernel_rfl) (by kernel_rfl) (by decide) u (by rw[xxM];exact h)
def Qt:List (String × DataW Unit):=[("math/bits.deBruijn32tab",Rows.laid_math_bits_deBruijn32tab),("math/bits.deBruijn64tab",Rows.laid_math_bits_deBruijn64tab),("internal/strconv.uint64pow10",Rows.laid_internal_strconv_uint64pow10),("strconv.ErrRange",Rows.laid_strconv_ErrRange),("strconv.ErrSyntax",Rows.laid_strconv_ErrSyntax)]
theorem xvk {W:qW}(h:laidMetH Tryz.prog Qt W):Vars W:=by
 rw[MakeChecks.laidMetH_plain _ _ _ (by kernel_rfl)] at h;have c:laidMet Tryz.prog (("internal/strconv.uint64pow10",Lib.tabData .u64 Lib.pow10Tab) :: [("strconv.ErrRange",Rows.laid_strconv_ErrRange),("strconv.ErrSyntax",Rows.laid_strconv_ErrSyntax)]) W:=h.tail.tail;obtain⟨a0,s0,a,-,-,-⟩:=laid_sentinel c.tail gRng xxT Tryz.underlying167 xw6 Tryz.underlying322 Tryz.underlying324 rfl rfl Tryz.underlying9 xvN xvC;obtain⟨a1,s1,b,-,-,-⟩:=laid_sentinel c.tail.tail gSyn xxS Tryz.underlying167 xw6 Tryz.underlying322 Tryz.underlying324 rfl rfl Tryz.underlying9 xvN xvC;exact⟨⟨_,_,b⟩,⟨_,_,a⟩,Lib.tabIs_of_head gPow xxR Tryz.underlying285 Tryz.underlying248 xwV xwZ c⟩
end Go.Proofs.YtbafokihegegiaaGreatDoor
