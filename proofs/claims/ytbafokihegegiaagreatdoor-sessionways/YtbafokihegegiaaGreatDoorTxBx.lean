/- A part. -/
import Derived.Test.YtbafokihegegiaaGreatDoorTxS
import Derived.Test.YtbafokihegegiaaGreatDoorTxPw
namespace Go.Proofs.YtbafokihegegiaaGreatDoor
open Go.ChangeShapes Go.WideShapes Go.ChangeAt Go.RowKit
set_option linter.unusedSimpArgs false
set_option linter.unusedVariables false
set_option maxHeartbeats 8000000
set_option maxRecDepth 8000
def xxW (l:List StE):QW × List ReE × Int:=if l.length<=60 then ((Ek xcU l).X,GR xcU l,0) else (⟨[],[],0⟩,[],5)
theorem xxX {P:Nat->Prop}(l:List StE)(v:Value)(w:qW)(n:Ps P w v l)(p:VarsB w.heap.size w) :
  Calls Tryz.prog 11 #[v] w λe w'=>∃(c1 i:Option Addr) (c2 j:Nat) (l1 t1 s1:Option Addr) (l2 l3 t2 t3 s2 s3:Nat) (r1:Option Addr) (r2:Nat),e=.returned (.tuple #[Hf (qS c1 (xxW l).1.cz.length c2) (qS i (xxW l).1.heap.length j) (xxW l).1.ez (qS l1 l2 l3) (qS t1 t2 t3) (qS s1 s2 s3),qS r1 (xxW l).2.1.length r2,J (xxW l).2.2])/\
   BK (λb=>w.heap.size<=b) w' (qS c1 (xxW l).1.cz.length c2) (xxW l).1.cz/\BP (λb=>w.heap.size<=b) w' (qS i (xxW l).1.heap.length j) (xxW l).1.heap/\xhg (λb=>w.heap.size<=b) w' (qS r1 (xxW l).2.1.length r2) (xxW l).2.1/\qY w w':=by
 by_cases h60:l.length<=60
 ·refine (xw3 l h60 v w n p).mono ?_;rintro e w' ⟨cv,hv,lv,tv,sv,g,rfl,a,f,d,q⟩;obtain⟨c1,c2,rfl,-⟩:=id a.c;obtain⟨i,j,rfl,-⟩:=id a.h;obtain⟨l1,l2,rfl,-⟩:=id a.l;obtain⟨t1,t2,rfl,-⟩:=id a.t;obtain⟨s1,s2,rfl⟩:=f.get;have k:xxW l=((Ek xcU l).X,GR xcU l,0):=by unfold xxW;rw[if_pos h60]
  rw[k];have o:=xdv l xcU;refine⟨c1,i,c2,j,l1,t1,s1,(Ek xcU l).cells.length,l2,(Ek xcU l).ts.length,t2,(Ek xcU l).saved.length,s2,some (O g 0),l.length,?_,a.c,a.h,?_,q⟩
  ·simp only[o]
  simp only[o];exact d
 have k:xxW l=(⟨[],[],0⟩,[],5):=by unfold xxW;rw[if_neg h60]
 rw[k];obtain⟨ad,cap,rfl,-⟩:=n;have m:(60:Int)<(l.length:Int):=by omega
 go_enter Tryz.func11,Tryz.ntmps11;go_wp2;refine Bt (v:=.tuple #[Hf (qN) (qN) 0 (qN) (qN) (qN),qN,J 5]) ?_ rfl ⟨none,none,0,0,none,none,none,0,0,0,0,0,0,none,0,rfl,Gq,Gq,Gq,?_⟩
 ·simp[results,Tryz.results11,go_sem]
 first | exact Bg _ _ | exact (Bg _ _).trans (((((((Chg.refl _ _).set _ _).set _ _).set _ _).set _ _).set _ _).set _ _ |>.below (Bq _))
theorem xxZ {l m:List StE}(a:l.length=m.length)(d:∀(j:Nat) x y,l[j]?=some x->m[j]?=some y->Way x y):xxW m=xxW l:=by
 unfold xxW;rw[← a];split
 ·obtain⟨b,c⟩:=xg7 l m 0 xcU xcU xiT xiT ⟨rfl,rfl⟩ (by omega) a d;rw[b,c.X]
 rfl
theorem Way.set {x y:StE}(h:Way x y)(d:y.kind=4\/y.kind=5\/y.kind=6){k:Int}(a:k=4\/k=5\/k=6):Way x { y with kind:=k }:=by
 rcases h with rfl | ⟨c,k',b,rfl⟩
 ·exact .inr ⟨d,k,a,rfl⟩
 exact .inr ⟨c,k,a,rfl⟩
theorem innS {P:Nat->Prop}{w:qW}{f:Nat->Option Value}{x:StE}(h:xrV P w f x):xrV (λb=>P b/\b<w.heap.size) w f x:=by
 obtain⟨e,g,i,j,k,l,m,n,p,a,c,q,v,u,o,hv,d,r⟩:=h;exact⟨e,g,i,j,k,l,m,n,p,a,c,q,v,u,o,hv.inn BR λ_ _ h=>h,d,r.inn BZ λ_ _ h=>h⟩
theorem xxY {P:Nat->Prop}{w:qW}{cs:List Value}{M:List StE}{j:Nat}{x:StE}(h:Cells xrV 13 P w cs M)(o:M[j]?=some x)(k:Int):Cells xrV 13 P w (cs.set (j*13) (J k)) (M.set j { x with kind:=k }):=by
 have g:=Bz o;have L:=h.1;refine⟨by simpa using h.1,λi y f=>?_⟩;by_cases hij:i=j
 ·subst hij;rw[List.getElem?_set_self g] at f
  cases f;obtain⟨K,p,r,s,t,z,B,C,F,a,b,l,v,u,D,hv,d,H⟩:=h.2 i x o;have e:∀q,1<=q->(cs.set (i*13) (J k))[i*13+q]?=cs[i*13+q]?:=λq G=>List.getElem?_set_ne (by omega);exact⟨by show (cs.set (i*13) (J k))[i*13+0]?=_;rw[Nat.add_zero,List.getElem?_set_self (by omega)],(e 1 (by omega)).trans p,(e 2 (by omega)).trans r,(e 3 (by omega)).trans s,(e 4 (by omega)).trans t,(e 5 (by omega)).trans z,(e 6 (by omega)).trans B,(e 7 (by omega)).trans C,(e 9 (by omega)).trans F,(e 10 (by omega)).trans a,(e 11 (by omega)).trans b,⟨l.n,l.m,l.c⟩,v,u,(e 8 (by omega)).trans D,hv,(e 12 (by omega)).trans d,H⟩
 rw[List.getElem?_set_ne (Ne.symm hij)] at f;refine MG.move (h.2 i y f) (λ_ h=>h) (Keeps.refl _ _) λq G v hv=>?_;show (cs.set (j*13) (J k))[i*13+q]?=some v;rw[List.getElem?_set_ne (by omega)];exact hv
structure WyQ (l:List StE)(W0:qW)(g:Nat)(wr:qW)(M:List StE):Prop where
 len:M.length=l.length
 way:∀(i:Nat) x y,l[i]?=some x->M[i]?=some y->Way x y
 kp:Kp (λt=>t=3) (Gd g) W0 wr
 own:∃(cs:List Value) (cur:Array Value),wr.heap[g]?=some (.cells cur 56 (0,0))/\cur.toList.take (l.length*13)=cs/\Cells xrV 13 (λb=>b≠g) wr cs M
theorem WyQ.get {l:List StE}{W0 wr:qW}{g j:Nat}{M:List StE}{y:StE}(h:WyQ l W0 g wr M)(a:M[j]?=some y):wr.cell? (O g (j*13))=some (J y.kind):=by
 obtain⟨cs,cur,b,c,d⟩:=h.own;have e:=Bz a;have f:=h.len;have:=(d.2 j y a).1;rw[← c] at this;replace this:(cur.toList.take (l.length*13))[j*13+0]?=some (J y.kind):=this;rw[List.getElem?_take,if_pos (by omega),Nat.add_zero] at this;rw[Bn b,← Array.getElem?_toList];exact this
theorem WyQ.free {l:List StE}{W0 wr:qW}{g:Nat}{M:List StE}(h:WyQ l W0 g wr M)(o:Nat):wr.frozen? (O g o)=false:=by
 obtain⟨cs,cur,a,-⟩:=h.own;exact BN a o
theorem WyQ.set {l:List StE}{W0 wr:qW}{g j:Nat}{M:List StE}{y:StE}(h:WyQ l W0 g wr M)(n:M[j]?=some y)(B:y.kind=4\/y.kind=5\/y.kind=6){k:Int}(a:k=4\/k=5\/k=6):WyQ l W0 g (wr.setCell (O g (j*13)) (J k)) (M.set j { y with kind:=k }):=by
 obtain⟨q,o,d,cs,cur,r,s,t⟩:=h;have c:Chg g wr (wr.setCell (O g (j*13)) (J k)):=(Chg.refl _ _).set _ _;have v:=Bz n;refine⟨by simp[q],λi x z f m=>?_,⟨c.os.trans d.os,c.tape.trans d.tape,c.output.trans d.output,by have:=c.size;have:=d.size;omega,λb u p=>(c.blk b λe=>p (by rw[e];exact xgK g)).trans (d.blk b u p)⟩,_,_,BW r _,rfl,?_⟩
 ·by_cases hij:i=j
  ·subst hij;rw[List.getElem?_set_self v] at m
   cases m;exact (o i x y f n).set B a
  rw[List.getElem?_set_ne (Ne.symm hij)] at m;exact o i x z f m
 have C:(cur.setIfInBounds (j*13) (J k)).toList.take (l.length*13)=cs.set (j*13) (J k):=by
  rw[Array.toList_setIfInBounds,List.take_set,s]
 rw[C];have:=xxY t n k;exact⟨this.1,λi x f=>MG.move (this.2 i x f) (λ_ h=>h) (c.keeps (by simp)) λ_ _ _ h=>h⟩
theorem xx3:(Tryz.prog.info? 56).map (λi=>(i.zero,i.size,i.bytes))=some (some (.agg #[J 0,qZ ⟨#[]⟩,J 0,J 0,qZ ⟨#[]⟩,J 0,J 0,J 0,qN,J 0,J 0,qZ ⟨#[]⟩,qN]),13,160):=by kernel_rfl
theorem xx1 {P Q:Nat->Prop}(l:List StE)(ws:List Int)(v u:Value)(w:qW)(hl:Ps P w v l)(hm:LH Q w u ws)(hV:Vars w):Calls Tryz.prog 4 #[v,u] w λe w'=>e=.returned (.bool true)/\qY w w':=by
 have bp:=xxF w hV;have bi:=hl.inn MG λ_ _=>innS;obtain⟨ae,aw,rfl,b4,ao,ax,af⟩:=hm;obtain⟨ad,cap,rfl,az,an,ak,aj⟩:=id bi;go_enter Tryz.func4,Tryz.ntmps4;go_wp2_with fail;refine bp.mono ?_;rintro e W ⟨rfl,hb⟩;obtain⟨ap,am,e1,-,-,-,al⟩:=bi.later MG hb
 cases e1;obtain⟨cs,ah,ag⟩:=al.cells MG;have bz:=hb.size;clear bp aj;go_wp2_with (at_builtin;refine xfA rfl (.tmp 17) (.tmp 18) 22 56 _ 13 160 rfl Tryz.underlying22 xx3 rfl (by omega) (by omega) W.heap.size rfl (by first | exact BH _ _ | (simp;done)) ad l.length cap rfl cs ah.1 (λj u hj=>by obtain⟨b,e,h⟩:=ag j u hj;exact⟨b,e,Bf (Bg _ _) h⟩) (by omega) ?_;intro g cap' W1 aa hg ay ai);have c1:W.heap.size<=g:=by rcases hg with h | h;exact Nat.le_of_eq h.symm;simp at h;omega
 have ba:=Bh (Bg W _) ai;have br:=Bh hb ba;have bt:w.heap.size<=g:=by omega
 obtain⟨q1,⟨q2,-⟩ | ⟨g',c',cur,e,o1,o2,o3,o4,o5,o6⟩⟩:=id aa
 ·cases q2
 cases e;have bo:WyQ l W1 g W1 l:=⟨rfl,λi x y h1 h2=>.inl (by rw[h1] at h2;exact Option.some.inj h2),⟨rfl,rfl,rfl,Bq _,λ_ _ _=>rfl⟩,cs,cur,o2,o6,ah.keep MG (.of_below ba) λb h=>by have:=h.2;omega⟩
 clear aa ag ah ai ba hg o1 o2 o5 o6 q1 cur;go_wp2
 go_loopg [6,22] l.length (λgk n c wr=>∃(j nn:Nat) (M:List StE),j+gk=l.length/\n=J nn/\nn<=j/\c=J j/\WyQ l W1 g wr M)
 case atStart=>exact⟨0,0,l,by omega,rfl,Bq _,rfl,bo⟩
 case round=>
  obtain⟨j,nn,M,hj,rfl,hn,rfl,hM⟩:=hrel;clear bo;have bc:=xvJ hM.kp br bt;by_cases hlt:j<l.length
  ·have bl:Hid (M[j]?=some (M[j]'(by have:=hM.len;omega))):=by show _=_;simp
   generalize M[j]'(by have:=hM.len;omega)=y at *;have c0:=hM.get bl.out;have f0:=hM.free;have bv:(j:Int)<(l.length:Int):=by omega
   have bu:(0:Int)<=(j:Int):=by omega
   have c2:(0:Int)<=(nn:Int):=by omega
   have HM:=hid hM;clear hM;by_cases hk:y.kind=4\/y.kind=5\/y.kind=6
   ·have HK:=hid hk;by_cases hnl:nn<ws.length
    ·have bw:(nn:Int)<(ws.length:Int):=by omega
     obtain⟨b,o,rfl,-,u0⟩:=af nn ws[nn] (by simp[hnl]);replace u0:w.cell? (O b (o+nn*1+0))=some (J ws[nn]):=u0;simp only[Nat.mul_one,Nat.add_zero] at u0;replace u0:=Bf bc u0;generalize ws[nn]=z at *;by_cases hz:z=0\/z=1\/z=2
     ·have HN:=hid (λk (h:k=4\/k=5\/k=6)=>HM.out.set bl.out HK.out h);rcases hz with rfl | rfl | rfl
      all_goals
       rcases hk with hk | hk | hk
       all_goals
        rw[hk] at c0;go_wp2;go_roundg (gk-1)
        case measure=>omega
        case rel=>exact⟨j+1,nn+1,_,by omega,by go_num,by omega,by go_num,HN.out _ (by omega)⟩
     by_cases hz0:0<=z
     ·have c4:¬ z<=2:=by omega
      rcases hk with hk | hk | hk
      all_goals
       rw[hk] at c0;go_wp2;go_roundg (gk-1)
       case measure=>omega
       case rel=>exact⟨j+1,nn+1,M,by omega,by go_num,by omega,by go_num,HM.out⟩
     rcases hk with hk | hk | hk
     all_goals
      rw[hk] at c0;go_wp2;go_roundg (gk-1)
      case measure=>omega
      case rel=>exact⟨j+1,nn+1,M,by omega,by go_num,by omega,by go_num,HM.out⟩
    have bw:(ws.length:Int)<=(nn:Int):=by omega
    have c3:decide ((nn:Int)<(ws.length:Int))=false:=decide_eq_false (by omega);rcases hk with hk | hk | hk
    all_goals
     rw[hk] at c0;go_wp2;go_roundg (gk-1)
     case measure=>omega
     case rel=>exact⟨j+1,nn+1,M,by omega,by go_num,by omega,by go_num,HM.out⟩
   have k4:(y.kind == 4)=false:=beq_eq_false_iff_ne.2 (by omega);have k5:(y.kind == 5)=false:=beq_eq_false_iff_ne.2 (by omega);have k6:(y.kind == 6)=false:=beq_eq_false_iff_ne.2 (by omega);go_wp2;go_roundg (gk-1)
   case measure=>omega
   case rel=>exact⟨j+1,nn,M,by omega,rfl,by omega,by go_num,HM.out⟩
  obtain rfl:j=l.length:=by omega
  have bn:=(hV.from.on bc).mono bc.size;have bq:=xxX l _ wr (bi.later MG bc) bn
  have bm:∀w',qY wr w'->Ps (λ_=>True) w' (qG g l.length cap') M:=λw' b6=>by
   obtain⟨cs,cur,h1,h2,h3⟩:=hM.own;have:=Cells.row (bytes:=160) (cap:=cap') (h3.keep MG (.of_below b6) λ_ _=>trivial) MG (P:=λ_=>True) trivial (Bs h1 b6) (by rw[hM.len,h2]) (by rw[hM.len];exact o3) o4 (by rw[hM.len];exact ak);rw[hM.len] at this;exact this
  have bj:=λ(w':qW) (b6:qY wr w')=>xxX M _ w' (bm w' b6) ((bn.on b6).mono b6.size);rw[xxZ hM.len.symm hM.way] at bj;generalize xxW l=p at *;clear bm hM af;go_wp2_with fail;refine bq.mono ?_;rintro e Z ⟨d,m,f,q,s,G,C,t,B,H,K,D,F,aq,ar,rfl,aC,aH,aR,ab⟩;have b8:=Bg Z (qC #[qS d p.1.cz.length f,qS m p.1.heap.length q,J p.1.ez,qS s t B,qS G H K,qS C D F] 31);have be:(Z.alloc (qC #[qS d p.1.cz.length f,qS m p.1.heap.length q,J p.1.ez,qS s t B,qS G H K,qS C D F] 31)).heap[Z.heap.size]?=some (qC #[qS d p.1.cz.length f,qS m p.1.heap.length q,J p.1.ez,qS s t B,qS G H K,qS C D F] 31 (0,0)):=BH _ _;replace aC:=aC.later Bw b8;replace aH:=aH.later BB b8;replace aR:=aR.later Nt b8;have bh:=Bh ab b8;have bf:=bj _ bh;clear bq bj;go_upto_region 14 with (fail)
  clear b8 ab;generalize (Z.alloc (qC #[qS d p.1.cz.length f,qS m p.1.heap.length q,J p.1.ez,qS s t B,qS G H K,qS C D F] 31))=U at *;generalize Z.heap.size=na at *;go_wp2_with fail;refine bf.mono ?_;rintro e Z2 ⟨L,R,N,S,T,a7,a4,X,Y,a8,a9,a5,a6,au,av,rfl,bC,bH,bR,bb⟩;have b9:=Bg Z2 (qC #[qS L p.1.cz.length N,qS R p.1.heap.length S,J p.1.ez,qS T X Y,qS a7 a8 a9,qS a4 a5 a6] 31);have bk:(Z2.alloc (qC #[qS L p.1.cz.length N,qS R p.1.heap.length S,J p.1.ez,qS T X Y,qS a7 a8 a9,qS a4 a5 a6] 31)).heap[Z2.heap.size]?=some (qC #[qS L p.1.cz.length N,qS R p.1.heap.length S,J p.1.ez,qS T X Y,qS a7 a8 a9,qS a4 a5 a6] 31 (0,0)):=BH _ _;have b7:=Bh bb b9;replace aC:=aC.later Bw b7;replace aH:=aH.later BB b7;replace aR:=aR.later Nt b7;replace be:=Bs be b7;replace bC:=bC.later Bw b9;replace bH:=bH.later BB b9;replace bR:=bR.later Nt b9;have bg:=Bh (Bh bc bh) b7;clear bf;go_upto_region 15 with (fail)
  clear b9 bb b7 bh;generalize (Z2.alloc (qC #[qS L p.1.cz.length N,qS R p.1.heap.length S,J p.1.ez,qS T X Y,qS a7 a8 a9,qS a4 a5 a6] 31))=V at *;generalize Z2.heap.size=nb at *;obtain⟨-,s0,s1,s2,s3,s4,s5⟩:=EH be;obtain⟨-,t0,t1,t2,t3,t4,t5⟩:=EH bk;have bd:=xwT p.1 _ _ _ _ V aC aH bC bH;go_wp2_with fail;refine bd.mono ?_;rintro e V2 ⟨rfl,hk⟩;replace aR:=aR.later Nt hk;replace bR:=bR.later Nt hk;replace bg:=Bh bg hk;clear aC aH bC bH be bk s0 s1 s2 s3 s4 s5 t0 t1 t2 t3 t4 t5 bd hk;generalize p.2.1=rs at *;go_wp2
  go_loopg [109] rs.length (λgk c wr=>∃i:Nat,i+gk=rs.length/\c=J i/\qY V2 wr)
  case atStart=>exact⟨0,by omega,rfl,Br _ _⟩
  case round=>
   obtain⟨i,hi,rfl,a⟩:=hrel;replace aR:=aR.later Nt a;replace bR:=bR.later Nt a;have bs:=Bh bg a;by_cases hlt:i<rs.length
   ·obtain⟨_,_,e1,-,-,b5,ra⟩:=aR
    cases e1;obtain⟨_,_,e2,-,-,-,rb⟩:=bR
    cases e2;obtain⟨x1,y1,rfl,-,a0,a1,a2,a3⟩:=ra i rs[i] (by simp[hlt]);obtain⟨x2,y2,rfl,-,b0,b1,b2,b3⟩:=rb i rs[i] (by simp[hlt]);generalize rs[i]=r at *;simp only[Nat.add_zero] at a0 b0;have bv:(i:Int)<(rs.length:Int):=by omega
    have bu:(0:Int)<=(i:Int):=by omega
    have bx:=Bh a (Br _ _);go_upto_region 20 with (fail);go_quiet (fail);go_wp2;go_roundg (gk-1)
    case measure=>omega
    case rel=>exact⟨i+1,by omega,by go_num,below_drewN a _⟩
   obtain rfl:i=rs.length:=by omega
   go_wp2;refine Bt (v:=.bool true) ?_ rfl ⟨rfl,bs⟩;simp[results,Tryz.results4,go_sem]
end Go.Proofs.YtbafokihegegiaaGreatDoor
