import Derived.Test.YtbafokihegegiaaGreatDoorU32
import Derived.Stop.LaidErr
import Derived.LaidMore
import Derived.Stop.Joined
namespace Go.Proofs.YtbafokihegegiaaGreatDoor
open ChangeShapes WideShapes ChangeAt RowKit
set_option linter.unusedSimpArgs false
set_option linter.unusedVariables false
set_option maxHeartbeats 8000000
set_option maxRecDepth 8000
theorem xys {P:Nat->Prop}(l:List StE)(v:Value)(w:qW)(hl:Ps P w v l)(hV:Vars w):Calls Tryz.prog 5 #[v] w λe w'=>e=.returned (.bool true)/\qY w w':=by
 have ay:=xxF w hV;obtain⟨ad,cap,rfl,a6,a3,a5,m⟩:=hl;go_enter Tryz.func5,Tryz.ntmps5;go_wp2_with fail;refine ay.mono ?_;rintro e W ⟨rfl,hb⟩;by_cases h100:60<l.length
 ·have ax:(60:Int)<(l.length:Int):=by omega
  clear m ay;go_wp2;refine Bt (v:=.bool true) ?_ rfl ⟨rfl,hb⟩;simp[results,Tryz.results5,go_sem]
 have ax:¬ (60:Int)<(l.length:Int):=by omega
 go_wp2_with fail;refine (xpJ W).mono ?_;rintro e W1 ⟨cv,hv,rfl,hS,hk⟩;obtain⟨c1,c2,rfl,-⟩:=id hS.c;obtain⟨h1,h2,rfl,-⟩:=id hS.h;have az:HasS (λb=>w.heap.size<=b) (W1.alloc (qC #[qS c1 xlV.cz.length c2,qS h1 xlV.heap.length h2,J 0,qN,qN,qN] 31)) W1.heap.size xcU:=xwj (n:=w.heap.size) (s:=xcU) (sv:=qN) (hS.keep (Keeps.refl _ _) λb h=>by have:=hb.size;omega) SvAt.nil;replace hb:=Bh hb hk;have ao:=Bg W1 (qC #[qS c1 xlV.cz.length c2,qS h1 xlV.heap.length h2,J 0,qN,qN,qN] 31);have b5:=hb.size;replace hb:=Bh hb ao;have b3:=Nat.lt_of_lt_of_eq (Nat.lt_succ_self W1.heap.size) (show W1.heap.size+1=(W1.alloc (qC #[qS c1 xlV.cz.length c2,qS h1 xlV.heap.length h2,J 0,qN,qN,qN] 31)).heap.size by simp);clear hS hk ao ay;go_upto_region 6 with (fail);generalize (W1.alloc (qC #[qS c1 xlV.cz.length c2,qS h1 xlV.heap.length h2,J 0,qN,qN,qN] 31))=W2 at *;generalize W1.heap.size=sb at *;go_wp2
 go_loopg [16] l.length (λg c wr=>∃(j:Nat) (s:Sn),j+g=l.length/\c=J j/\LoQ (λ_=>True) xcU 0 400 (λb=>w.heap.size<=b) W2 sb j wr s)
 case atStart=>exact⟨0,xcU,by omega,rfl,⟨[],rfl,Bq _,λx hx=>by cases hx⟩,xiT,xqO.mono Zo,⟨rfl,rfl,rfl,Bq _,λ_ _ _=>rfl⟩,az⟩
 case round=>
  obtain⟨j,s,hj,rfl,hP⟩:=hrel;clear az;have HP:=hid hP;have af:=xvJ hP.kp hb b5;obtain⟨cv,hv,lv,tv,sv,z,hS,u⟩:=id hP.has;clear hP;obtain⟨pa,pb,rfl,-⟩:=id hS.c;obtain⟨pc,pd,rfl,-⟩:=id hS.h;obtain⟨pe,pf,rfl,-⟩:=id hS.l;obtain⟨pg,ph,rfl,-⟩:=id hS.t;obtain⟨pi,pj,rfl⟩:=u.get;have b9:=HP.out.kp.size;by_cases hlt:j<l.length
  ·obtain⟨b,o,rfl,-,B,D,F,G,H,K,L,M,Q,p,q,hN,mv,av,N,hM,r,hA⟩:=m j l[j] (by simp[hlt]);generalize l[j]=x at *;simp only[Nat.add_zero] at B;have u0:=Bf af B;have u1:=Bf af D;have u2:=Bf af F;have u3:=Bf af G;have u4:=Bf af H;have u5:=Bf af K;have u6:=Bf af L;have u7:=Bf af M;have u8:=Bf af N;have u9:=Bf af Q;have u10:=Bf af p;have u11:=Bf af q;have u12:=Bf af r;replace hM:=hM.later BR af;replace hA:=hA.later BZ af;obtain⟨am,cm,rfl,-⟩:=id hM;obtain⟨aa,ca,rfl,-⟩:=id hA;clear B D F G H K L M N Q p q r m;have bd:(j:Int)<(l.length:Int):=by omega
   have bc:(0:Int)<=(j:Int):=by omega
   have ah:=Bg wr (qB x am cm aa ca);have b1:=Pb s HP.out.inv Zo (HP.out.few.mono Zo) x hN (qS pa s.X.cz.length pb) (qS pc s.X.heap.length pd) (qS pe s.cells.length pf) (qS pg s.ts.length ph) (qS pi s.saved.length pj) _ _ _ (hS.keep (Keeps.of_below ah) λ_ h=>h) (u.keep (Keeps.of_below ah) λ_ h=>h) ((hV.from.on (af.trans (ah.mono af.size))).mono (BX af.size ah.size)) (hM.later BR ah) (hA.later BZ ah);have ae:=Bs z ah;have b2:(wr.alloc (qB x am cm aa ca)).heap[wr.heap.size]?=some (qB x am cm aa ca):=BH _ _;have be:(wr.alloc (qB x am cm aa ca)).heap.size=wr.heap.size+1:=by simp
   have ba:=By z;have b7:=af.size;have al:=hS.c.later Bw ah;have an:=hS.h.later BB ah;have b0:=Bh af ah;clear z hS u hM hA;have b4:j<400:=by omega
   have au:=hid (Nd HP.out.inv Zo x);have HN:=hid (λ(Z Y:qW) (cv hv lv tv sv:Value) (h1:Below (wr.alloc (qB x am cm aa ca)).heap.size (wr.alloc (qB x am cm aa ca)) Z) h2 h3 h4 h5=>LoQ.next (x:=x) (n:=(wr.alloc (qB x am cm aa ca)).heap.size) (cv:=cv) (hv:=hv) (lv:=lv) (tv:=tv) (sv:=sv) (Z:=Z) (Y:=Y) HP.out b4 Zo trivial (Bh ah h1) h2 h3 h4 h5 Zo b3 (λb h=>by omega));go_upto_region 9 with (fail);clear u0 u1 u2 u3 u4 u5 u6 u7 u8 u9 u10 u11 u12 ah;generalize wr.alloc (qB x am cm aa ca)=V at *;obtain⟨-,s0,s1,s2,s3,s4,s5⟩:=EH ae;obtain⟨p0,p1,p2,p3,p4,p5,p6,p7,p8,p9,S,T,U⟩:=QN b2;generalize Cg s x=R at *;go_wp2_with fail;refine b1.mono ?_;rintro e Z ⟨a4,a7,a8,ab,a9,rfl,ag,ai,y⟩;obtain⟨qa,qb,rfl,-⟩:=id ag.c;obtain⟨qc,qd,rfl,-⟩:=id ag.h
   obtain⟨qe,qf,rfl,-⟩:=id ag.l;obtain⟨qg,qh,rfl,-⟩:=id ag.t;obtain⟨qi,qj,rfl⟩:=ai.get;clear s0 s1 s2 s3 s4 s5 p0 p1 p2 p3 p4 p5 p6 p7 p8 p9 S T U b1;have b6:=y.size;have ao:=BG Z (qF R.1 qa qb qc qd qe qf qg qh (qS qi R.1.saved.length qj)) (qT R.2);have aj:((Z.alloc (qF R.1 qa qb qc qd qe qf qg qh (qS qi R.1.saved.length qj))).alloc (qT R.2)).heap[Z.heap.size]?=some (qF R.1 qa qb qc qd qe qf qg qh (qS qi R.1.saved.length qj)):=Bs (BH _ _) (Bg _ _);have ap:((Z.alloc (qF R.1 qa qb qc qd qe qf qg qh (qS qi R.1.saved.length qj))).alloc (qT R.2)).heap[Z.heap.size+1]?=some (qT R.2):=Dh _ _ _ (by simp);have aq:=Bh y ao;replace ae:=Bs ae aq;replace al:=al.later Bw aq;replace an:=an.later BB aq;replace ag:=ag.keep (Keeps.of_below ao) λ_ h=>h;replace ai:=ai.keep (Keeps.of_below ao) λ_ h=>h;have b8:=Bh b0 aq;go_upto_region 10 with (fail);clear ao y b2;generalize ((Z.alloc (qF R.1 qa qb qc qd qe qf qg qh (qS qi R.1.saved.length qj))).alloc (qT R.2))=Y at *;generalize Z.heap.size=tb at *;obtain⟨-,t0,t1,t2,t3,t4,t5⟩:=EH aj;obtain⟨-,s0,s1,s2,s3,s4,s5⟩:=EH ae;obtain⟨-,r0,r1,r2,r3⟩:=Ec ap;have ak:=xyi R.1.X _ _ Y ag.c ag.h;rw[show BM R.1.X=0 from au.out.inv.right] at ak
   have bb:¬ R.1.X.ez<s.X.ez:=by have:=au.out.ep;omega
   go_wp2_with fail;refine ak.mono ?_;rintro e Y1 ⟨rfl,a⟩;replace aj:=Bs aj a;replace ap:=Bs ap a;replace ae:=Bs ae a;replace al:=al.later Bw a;replace an:=an.later BB a;replace ag:=ag.keep (Keeps.of_below a) λ_ h=>h;replace ai:=ai.keep (Keeps.of_below a) λ_ h=>h;have ar:=Bh aq a;clear t0 t1 t2 t3 t4 t5 s0 s1 s2 s3 s4 s5 r0 r1 r2 r3 ak a aq;obtain⟨-,t0,t1,t2,t3,t4,t5⟩:=EH aj;obtain⟨C,s0,s1,s2,s3,s4,s5⟩:=EH ae;obtain⟨-,r0,r1,r2,r3⟩:=Ec ap;by_cases he:R.2.err=0
   ·obtain⟨f,i⟩:=Mm ae (qS qa R.1.X.cz.length qb) (qS qc R.1.X.heap.length qd) (J R.1.X.ez) (qS qe R.1.cells.length qf) (qS qg R.1.ts.length qh) (qS qi R.1.saved.length qj);have HF:=hid (HN.out Y1 _ _ _ _ _ _ ar ag ai i f);rw[he] at r0;clear ag ai i f HN ae aj ap ar al an au he;go_wp2;go_roundg (gk-1)
    case measure=>omega
    case rel=>exact⟨j+1,R.1,by omega,by go_num,HF.out⟩
   have hX:=au.out.same he;obtain⟨⟨RX,a0,a2,a1⟩,rr⟩:=R;simp only at he hX;subst hX;have aw:=xwT s.X _ _ _ _ Y1 ag.c ag.h al an;go_wp2_with fail;refine aw.mono ?_;rintro e Y2 ⟨rfl,d⟩;replace aj:=Bs aj d;replace ae:=Bs ae d;replace ag:=ag.keep (Keeps.of_below d) λ_ h=>h;replace ai:=ai.keep (Keeps.of_below d) λ_ h=>h;replace ar:=Bh ar d;clear t0 t1 t2 t3 t4 t5 s0 s1 s2 s3 s4 s5 r0 r1 r2 r3 C aw d;obtain⟨-,t0,t1,t2,t3,t4,t5⟩:=EH aj;obtain⟨C,s0,s1,s2,s3,s4,s5⟩:=EH ae;obtain⟨f,i⟩:=Mm ae (qS qa s.X.cz.length qb) (qS qc s.X.heap.length qd) (J s.X.ez) (qS qe a0.length qf) (qS qg a2.length qh) (qS qi a1.length qj);have HF:=hid (HN.out Y2 _ _ _ _ _ _ ar ag ai i f);clear ag ai i f HN ae aj ap ar al an au;go_wp2;go_roundg (gk-1)
   case measure=>omega
   case rel=>exact⟨j+1,_,by omega,by go_num,HF.out⟩
  obtain rfl:j=l.length:=by omega
  go_wp2;refine Bt (v:=.bool true) ?_ rfl ⟨rfl,af⟩;simp[results,Tryz.results5,go_sem]
theorem xxs:Tryz.prog.cellsOf 54=4:=by kernel_rfl
theorem xxw:Tryz.prog.cellsOf 56=13:=by kernel_rfl
theorem xxl:Tryz.prog.bytesOf 56=160:=by kernel_rfl
section
variable {H:Type} {enc:TypeId × Value->H} {w:World} {base:Nat} {spare:Nat->Bool} {held:Bool}
theorem xwr {n:Nat}{cs:List Value}{x:DataW H × List MemPlace}(f:cs.length=4)(h:DataW.trod enc Tryz.prog w base spare held n 54 cs=some x)(d:∀n∈x.1.weights Tryz.prog 54,n<=140737488351232):∃(v:QV) (s:ByteArray) (u:Value) (l:List QV),cs=[J v.k,J v.n,qZ s,u]/\s.size<=140737488351232/\CG KR w u l:=by
 obtain⟨xs,k,m,b,_,a,c⟩:=DataW.trod_struct Tryz.underlying54 h
 match xs,a,cs,f with
 | [y0,y1,y2],_,[v0,v1,v2,v3],_=>
  have g0:=c 0 _ rfl;have g1:=c 1 _ rfl;have g2:=c 2 _ rfl;simp[xwa,xvI,xxA] at g0 g1 g2;rw[b] at d;obtain⟨v,e0,e1⟩:=xvL rfl g0;obtain⟨s,e2,e5,-⟩:=DataW.trod_string Tryz.underlying9 g1;obtain⟨l,i⟩:=xwd g2 (λq g=>d q (Mq (j:=2) (xs:=[y0,y1,y2]) Tryz.underlying54 rfl rfl q g));simp at e0 e1 e2;subst e0 e1 e2
  have e:s.size<=140737488351232:=by
   have:=d s.data.toList.length (Mq (j:=1) (xs:=[y0,y1,y2]) Tryz.underlying54 rfl rfl _ (by rw[e5];simp[DataW.weights]));simpa using this
  exact⟨v,s,v3,l,rfl,e,i⟩
theorem xwD {n:Nat}{cs:List Value}{x:DataW H × List MemPlace}(p:cs.length=13)(h:DataW.trod enc Tryz.prog w base spare held n 56 cs=some x)(g:∀n∈x.1.weights Tryz.prog 56,n<=140737488351232):∃y,xrV KR w (λk=>cs[k]?) y:=by
 obtain⟨xs,k,z,e,_,d,f⟩:=DataW.trod_struct Tryz.underlying56 h
 match xs,d,cs,p with
 | [y0,y1,y2,y3,y4,y5],_,[v0,v1,v2,v3,v4,v5,v6,v7,v8,v9,v10,v11,v12],_=>
  have g0:=f 0 _ rfl;have g1:=f 1 _ rfl;have g2:=f 2 _ rfl;have g3:=f 3 _ rfl;have g4:=f 4 _ rfl;have g5:=f 5 _ rfl;simp[xvE,xvI,xxe,xxs] at g0 g1 g2 g3 g4 g5;rw[e] at g;obtain⟨a,e0,-,-⟩:=DataW.trod_int Tryz.underlying3 g0;obtain⟨s,e1,e6,-⟩:=DataW.trod_string Tryz.underlying9 g1;obtain⟨b,e2,-,-⟩:=DataW.trod_int Tryz.underlying3 g2;obtain⟨c,e3,-,-⟩:=DataW.trod_int Tryz.underlying3 g3;obtain⟨m,m0,m1,m2,m3,mn,u,m4,r⟩:=xwf rfl g4 (λq i=>g q (Mq (j:=4) (xs:=[y0,y1,y2,y3,y4,y5]) Tryz.underlying56 rfl rfl q i));obtain⟨sv,sn,u2,l,e5,t,v⟩:=xwr rfl g5 (λq i=>g q (Mq (j:=5) (xs:=[y0,y1,y2,y3,y4,y5]) Tryz.underlying56 rfl rfl q i));simp at e0 e1 e2 e3 m0 m1 m2 m3 m4 e5;obtain⟨rfl,rfl,rfl,rfl⟩:=e5;subst e0 e1 e2 e3 m0 m1 m2 m3 m4
  have o:s.size<=140737488351232:=by
   have:=g s.data.toList.length (Mq (j:=1) (xs:=[y0,y1,y2,y3,y4,y5]) Tryz.underlying56 rfl rfl _ (by rw[e6];simp[DataW.weights]));simpa using this
  exact⟨⟨a,b,c,s,m,sv,sn,l⟩,rfl,rfl,rfl,rfl,rfl,rfl,rfl,rfl,rfl,rfl,rfl,⟨o,mn,t⟩,_,_,rfl,r,rfl,v⟩
theorem xuU {r:Reach}{b0:Nat}{v:Value}{d:DataW H}{p:List MemPlace}(hv:Value.okWide Tryz.prog w r b0 22 v)(h:DataW.Trod enc Tryz.prog w base spare held 22 v d p)(b:∀n∈d.weights Tryz.prog 22,n<=140737488351232):∃l,Ps KR w v l:=by
 obtain⟨a1,a,cap,rfl⟩:=okWide_slice Tryz.underlying22 hv;obtain⟨fuel,e⟩:=h;exact xu2 MG Tryz.underlying22 xxw xxl (by omega) (λn cs x c h b=>xwD c h b) (x:=(d,p)) (by simpa [Value.cells] using e) b
end
theorem gPow:Tryz.prog.globalNamed "internal/strconv.uint64pow10" = some 0:=by kernel_rfl
theorem xxR:(Tryz.prog.globals[0]?).map (·.type)=some 285:=by kernel_rfl
theorem gSyn:Tryz.prog.globalNamed "strconv.ErrSyntax" = some 1:=by kernel_rfl
theorem xxS:(Tryz.prog.globals[1]?).map (·.type)=some 167:=by kernel_rfl
theorem gRng:Tryz.prog.globalNamed "strconv.ErrRange" = some 2:=by kernel_rfl
theorem xxT:(Tryz.prog.globals[2]?).map (·.type)=some 167:=by kernel_rfl
theorem xvN:Tryz.prog.cellsOf 324=1:=by kernel_rfl
theorem xvC:Tryz.prog.cellsOf 9=1:=by kernel_rfl
theorem xwZ:Tryz.prog.cellsOf 285=20:=by kernel_rfl
theorem xwV:Tryz.prog.cellsOf 248=1:=by kernel_rfl
theorem xxM : "*" ++ "errors.errorString" = "*errors.errorString" := by decide
theorem xw6 (u:TypeId)(h:Tryz.prog.typeName? 3 u=some "*errors.errorString"):u=322:=
 typeName_ptr_named (nm := "errors.errorString") (by rw[xxM];kernel_rfl) (by kernel_rfl) (by decide) u (by rw[xxM];exact h)
def Qt:List (String × DataW Unit):=[("math/bits.deBruijn32tab",Rows.laid_math_bits_deBruijn32tab),("math/bits.deBruijn64tab",Rows.laid_math_bits_deBruijn64tab),("internal/strconv.uint64pow10",Rows.laid_internal_strconv_uint64pow10),("strconv.ErrRange",Rows.laid_strconv_ErrRange),("strconv.ErrSyntax",Rows.laid_strconv_ErrSyntax)]
theorem xvk {W:qW}(h:laidMetH Tryz.prog Qt W):Vars W:=by
 rw[MakeChecks.laidMetH_plain _ _ _ (by kernel_rfl)] at h;have c:laidMet Tryz.prog (("internal/strconv.uint64pow10",Lib.tabData .u64 Lib.pow10Tab) :: [("strconv.ErrRange",Rows.laid_strconv_ErrRange),("strconv.ErrSyntax",Rows.laid_strconv_ErrSyntax)]) W:=h.tail.tail;obtain⟨a0,s0,a,-,-,-⟩:=laid_sentinel c.tail gRng xxT Tryz.underlying167 xw6 Tryz.underlying322 Tryz.underlying324 rfl rfl Tryz.underlying9 xvN xvC;obtain⟨a1,s1,b,-,-,-⟩:=laid_sentinel c.tail.tail gSyn xxS Tryz.underlying167 xw6 Tryz.underlying322 Tryz.underlying324 rfl rfl Tryz.underlying9 xvN xvC;exact⟨⟨_,_,b⟩,⟨_,_,a⟩,Lib.tabIs_of_head gPow xxR Tryz.underlying285 Tryz.underlying248 xwV xwZ c⟩
end Go.Proofs.YtbafokihegegiaaGreatDoor
