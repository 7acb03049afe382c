import Derived.Test.YtbafokihegegiaaGreatDoorU29
namespace Go.Proofs.YtbafokihegegiaaGreatDoor
open ChangeShapes WideShapes ChangeAt RowKit
set_option linter.unusedSimpArgs false
set_option linter.unusedVariables false
set_option maxHeartbeats 8000000
set_option maxRecDepth 8000
structure PlayQ (l:List StE)(w:qW)(gr sb:Nat)(j:Nat)(wr:qW)(s:Sn)(cv hv lv tv sv:Value):Prop where
 st:s=Ek xcU (l.take j)
 inv:SInv j s
 few:Hg s (400+401*(l.length-j))
 bel:qY w wr
 box:wr.heap[sb]?=some (DR cv hv s.X.ez lv tv sv)
 ses:SesAt (λb=>w.heap.size<=b/\b≠sb/\b≠gr/\b≠w.heap.size) wr cv hv lv tv s
 sav:SvAt (λb=>w.heap.size<=b/\b≠sb/\b≠gr/\b≠w.heap.size) wr sv s.saved
 own:OwnSt Nc 4 43 wr gr (GR xcU l) j
 res:wr.heap[w.heap.size]?=some (qM)
 ls:w.heap.size<sb/\sb<gr/\gr<wr.heap.size
theorem xvV {l:List StE}{w W Z Y:qW}{gr sb j:Nat}{R:Sn × ReE}{cv hv lv tv sv:Value}(p:R.1=Ek xcU (l.take (j+1)))(c:SInv (j+1) R.1)(g:Hg R.1 (400+401*(l.length-(j+1))))(e:qY w Z)(a:Chg sb Z Y)(u:Y.heap[sb]?=some (DR cv hv R.1.X.ez lv tv sv))(m:SesAt (λb=>W.heap.size<=b) Z cv hv lv tv R.1)(i:SvAt (λb=>W.heap.size<=b) Z sv R.1.saved)(d:OwnSt Nc 4 43 Z gr (GR xcU l) j)(o:(GR xcU l)[j]?=some R.2)(f:Z.heap[w.heap.size]?=some (qM))(t:w.heap.size<sb)(s:sb<gr)(C:gr<W.heap.size/\W.heap.size<=Z.heap.size) :
  PlayQ l w gr sb (j+1) (((((Y.setCell (O gr (j*4)) (J R.2.err)).setCell (O gr (j*4+1)) (J R.2.n)).setCell (O gr (j*4+2)) (J R.2.v.k)).setCell (O gr (j*4+3)) (J R.2.v.n))) R.1 cv hv lv tv sv:=by
 have q:Chg gr Y (((((Y.setCell (O gr (j*4)) (J R.2.err)).setCell (O gr (j*4+1)) (J R.2.n)).setCell (O gr (j*4+2)) (J R.2.v.k)).setCell (O gr (j*4+3)) (J R.2.v.n))):=((((Chg.refl _ _).set _ _).set _ _).set _ _).set _ _;have B:=a.size;have z:OwnSt Nc 4 43 Y gr (GR xcU l) j:=d.ofBlock Nt Zo λb h _=>a.blk b Zo;have r:OwnSt Nc 4 43 (((((Y.setCell (O gr (j*4)) (J R.2.err)).setCell (O gr (j*4+1)) (J R.2.n)).setCell (O gr (j*4+2)) (J R.2.v.k)).setCell (O gr (j*4+3)) (J R.2.v.n))) gr (GR xcU l) (j+1):=z.step Nt o (vs:=[J R.2.err,J R.2.n,J R.2.v.k,J R.2.v.n]) rfl ⟨rfl,rfl,rfl,rfl⟩;generalize ((((Y.setCell (O gr (j*4)) (J R.2.err)).setCell (O gr (j*4+1)) (J R.2.n)).setCell (O gr (j*4+2)) (J R.2.v.k)).setCell (O gr (j*4+3)) (J R.2.v.n))=F at *;have y:=q.size;exact⟨p,c,g,(e.trans (a.below Zo)).trans (q.below Zo),q.held u Zo,(m.keep (a.keeps Zo) λ_ h=>h).keep (q.keeps Zo) λb h=>by omega,(i.keep (a.keeps Zo) λ_ h=>h).keep (q.keeps Zo) λb h=>by omega,r,q.held (a.held f Zo) Zo,t,s,by omega⟩
theorem xw3 {P:Nat->Prop}(l:List StE)(a7:l.length<=60)(v:Value)(w:qW)(hl:Ps P w v l)(hV:VarsB w.heap.size w) :
  Calls Tryz.prog 11 #[v] w λe w'=>∃(cv hv lv tv sv:Value) (g:Nat),e=.returned (.tuple #[Hf cv hv (Ek xcU l).X.ez lv tv sv,qG g l.length l.length,J 0])/\SesAt (λb=>w.heap.size<=b) w' cv hv lv tv (Ek xcU l)/\SvAt (λb=>w.heap.size<=b) w' sv (Ek xcU l).saved/\xhg (λb=>w.heap.size<=b) w' (qG g l.length l.length) (GR xcU l)/\qY w w':=by
 obtain⟨ad,cap,rfl,a8,a5,ae,m⟩:=hl;have bd:=xjn l.length Zo;have be:¬ (60:Int)<(l.length:Int):=by omega
 have ax:(w.alloc (qM)).heap[w.heap.size]?=some (qM):=BH _ _;have hn:=λw'=>xpJ w';go_enter Tryz.func11,Tryz.ntmps11;go_wp2_with fail;refine (hn _).mono ?_;rintro e w1 ⟨cv,hv,rfl,hS,hb⟩;obtain⟨a1,k1,rfl,-⟩:=id hS.c;obtain⟨a2,k2,rfl,-⟩:=id hS.h;replace ax:=Bs ax hb;have ay:=Bh (Bg w _) hb;have bg:w.heap.size<w1.heap.size:=by have:=hb.size;simp at this;omega
 clear hb hn;have az:SesAt (λb=>w.heap.size<=b/\b<w1.heap.size/\b≠w.heap.size) w1 (qS a1 xlV.cz.length k1) (qS a2 xlV.heap.length k2) (qN) (qN) xcU:=hS.keep (Keeps.refl _ _) λb h=>by simp at h;omega
 clear hS;go_wp2
 go_loopg [19] l.length (λg c wr=>∃(j:Nat) (s:Sn) (cv hv lv tv sv:Value),j+g=l.length/\c=J j/\PlayQ l w (w1.heap.size+1) w1.heap.size j wr s cv hv lv tv sv)
 case atStart=>
  refine⟨0,xcU,_,_,_,_,_,by omega,rfl,rfl,xiT,xqO.mono Zo,Bh ay (BG _ _ _),Bs (BH w1 _) (Bg _ _),az.keep (Keeps.of_below (BG _ _ _)) λb h=>by omega,SvAt.nil,?_,Bs ax (BG _ _ _),by simp;omega⟩;refine⟨⟨_,Dh _ _ _ (by simp),?_⟩,λi x hi=>by omega⟩;rw[size_madeCells,xdv]
 case round=>
  obtain⟨j,s,cv,hv,lv,tv,sv,hj,rfl,hP⟩:=hrel;clear bd az ax ay;obtain⟨G,a6,a4⟩:=hP.ls;obtain⟨ac,cc,rfl,-⟩:=id hP.ses.c;obtain⟨ah,ch,rfl,-⟩:=id hP.ses.h;obtain⟨al,kl,rfl,-⟩:=id hP.ses.l;obtain⟨at',kt,rfl,-⟩:=id hP.ses.t;obtain⟨B,z,rfl⟩:=hP.sav.get;have HP:=hid hP;obtain⟨sf,s0,s1,s2,s3,s4,s5⟩:=EH hP.box;by_cases hlt:j<l.length
  ·obtain⟨b,o,rfl,-,y,K,C,L,N,S,H,D,T,r,q,hN,mv,av,M,hM,u,hA⟩:=m j l[j] (by simp[hlt]);have b7:Hid (l[j]?=some l[j]):=by show _=_;simp[hlt]
   generalize l[j]=x at *;simp only[Nat.add_zero] at y;have u0:=Bf hP.bel y;have u1:=Bf hP.bel K;have u2:=Bf hP.bel C;have u3:=Bf hP.bel L;have u4:=Bf hP.bel N;have u5:=Bf hP.bel S;have u6:=Bf hP.bel H;have u7:=Bf hP.bel D;have u8:=Bf hP.bel M;have u9:=Bf hP.bel T;have u10:=Bf hP.bel r;have u11:=Bf hP.bel q;have u12:=Bf hP.bel u;replace hM:=hM.later BR hP.bel;replace hA:=hA.later BZ hP.bel;obtain⟨am,cm,rfl,-⟩:=id hM;obtain⟨aa,ca,rfl,-⟩:=id hA;clear y K C L N S H D M T r q u m hP;have bf:(j:Int)<(l.length:Int):=by omega
   have bh:(0:Int)<=(j:Int):=by omega
   have ak:=Bg wr (qB x am cm aa ca);have b8:=Pb s HP.out.inv Zo (HP.out.few.mono Zo) x hN (qS ac s.X.cz.length cc) (qS ah s.X.heap.length ch) (qS al s.cells.length kl) (qS at' s.ts.length kt) (qS B s.saved.length z) _ _ _ (HP.out.ses.keep (Keeps.of_below ak) λ_ h=>h) (HP.out.sav.keep (Keeps.of_below ak) λ_ h=>h) ((hV.on (HP.out.bel.trans (ak.mono HP.out.bel.size))).mono (BX HP.out.bel.size ak.size)) (hM.later BR ak) (hA.later BZ ak);have ar:=Bs HP.out.box ak;have ba:(wr.alloc (qB x am cm aa ca)).heap[wr.heap.size]?=some (qB x am cm aa ca):=BH _ _;have ao:=HP.out.own.later Nt ak;have au:=Bs HP.out.res ak;have ap:=HP.out.bel.trans (ak.mono (by have:=HP.out.bel.size;omega));have bi:(wr.alloc (qB x am cm aa ca)).heap.size=wr.heap.size+1:=by simp
   clear sf s0 s1 s2 s3 s4 s5;go_upto_region 8 with (fail);clear u0 u1 u2 u3 u4 u5 u6 u7 u8 u9 u10 u11 u12 ak hM hA;generalize wr.alloc (qB x am cm aa ca)=W at *;obtain⟨-,s0,s1,s2,s3,s4,s5⟩:=EH ar;obtain⟨p0,p1,p2,p3,p4,p5,p6,p7,p8,p9,a0,U,Y⟩:=QN ba
   have b9:Hid ((GR xcU l)[j]?=some (Cg s x).2):=by
    show _=_;rw[xhd l xcU j x b7.out,← HP.out.st]
   have bc:Hid ((Cg s x).1=Ek xcU (l.take (j+1))):=by
    show _=_;rw[xmZ b7.out,← HP.out.st]
   have b0:Hid (SInv (j+1) (Cg s x).1):=(Nd HP.out.inv Zo x).inv;have b6:Hid (Hg (Cg s x).1 (400+401*(l.length-(j+1)))):=xsc HP.out.inv (HP.out.few.mono Zo) x;generalize Cg s x=R at *;go_wp2_with fail;refine b8.mono ?_;rintro e Z ⟨af,a9,aj,ag,ai,rfl,d,F,a⟩;obtain⟨b1,j1,rfl,-⟩:=id d.c;obtain⟨b2,j2,rfl,-⟩:=id d.h;obtain⟨b3,j3,rfl,-⟩:=id d.l;obtain⟨b4,j4,rfl,-⟩:=id d.t;obtain⟨b5,j5,rfl⟩:=F.get;clear s0 s1 s2 s3 s4 s5 p0 p1 p2 p3 p4 p5 p6 p7 p8 p9 a0 U Y b8;replace ar:=Bs ar a;replace ao:=ao.later Nt a;replace au:=Bs au a;replace ap:=ap.trans (a.mono (by have:=ap.size;omega));have bj:=a.size;obtain⟨sf,s0,s1,s2,s3,s4,s5⟩:=EH ar;obtain⟨hY,V⟩:=Mm ar (qS b1 R.1.X.cz.length j1) (qS b2 R.1.X.heap.length j2) (J R.1.X.ez) (qS b3 R.1.cells.length j3) (qS b4 R.1.ts.length j4) (qS b5 R.1.saved.length j5);obtain⟨⟨cur,f,a3⟩,ab⟩:=id ao;rw[xdv] at a3;have f1:∀o,Z.frozen? (O (w1.heap.size+1) o)=false:=BN f;have e0:Z.cell? (O (w1.heap.size+1) (j*4))=some (cur[j*4]'Zo):=(by rw[Bn f];simp)
   have e1:Z.cell? (O (w1.heap.size+1) (j*4+1))=some (cur[j*4+1]'Zo):=(by rw[Bn f];simp)
   have e2:Z.cell? (O (w1.heap.size+1) (j*4+2))=some (cur[j*4+2]'Zo):=(by rw[Bn f];simp)
   have e3:Z.cell? (O (w1.heap.size+1) (j*4+3))=some (cur[j*4+3]'Zo):=(by rw[Bn f];simp)
   clear a;go_wp2;go_roundg (gk-1)
   case measure=>omega
   case rel=>exact⟨j+1,R.1,_,_,_,_,_,by omega,by go_num,xvV (W:=W) bc.out b0.out b6.out ap V hY d F ao b9.out au G Zo Zo⟩
  obtain rfl:j=l.length:=by omega
  have bb:Hid (s=Ek xcU l):=by
   show _=_;rw[hP.st,List.take_length]
  obtain⟨rf,r0,r1,r2,r3,r4,r5⟩:=EH hP.res;obtain⟨hF,p⟩:=Mm hP.res (qS ac s.X.cz.length cc) (qS ah s.X.heap.length ch) (J s.X.ez) (qS al s.cells.length kl) (qS at' s.ts.length kt) (qS B s.saved.length z);have aw:=xdv l xcU;have aq:OwnSt Nc 4 43 wr (w1.heap.size+1) (GR xcU l) (GR xcU l).length:=by rw[aw];exact hP.own
  have an:=aq.row (bytes:=32) Nt (by rw[aw];omega) Zo;rw[aw] at an;clear aw aq;have HF:=hid (And.intro (hP.ses.keep (Q:=λb=>w.heap.size<=b) (p.keeps Zo) λb h=>h.1) <| And.intro (hP.sav.keep (Q:=λb=>w.heap.size<=b) (p.keeps Zo) λb h=>h.1) (And.intro (an.keep Nt (Q:=λb=>w.heap.size<=b) (p.keeps Zo) λb h=>by omega) (hP.bel.trans (p.below (Bq _)))));clear an m hP HP;go_wp2;refine Bt (v:=.tuple #[Hf (qS ac s.X.cz.length cc) (qS ah s.X.heap.length ch) s.X.ez (qS al s.cells.length kl) (qS at' s.ts.length kt) (qS B s.saved.length z),qG (w1.heap.size+1) l.length l.length,J 0]) ?_ rfl (by rw[← bb.out];exact⟨_,_,_,_,_,_,rfl,HF.out⟩);simp[results,Tryz.results11,go_sem,r0,r1,r2,r3,r4,r5]
set_option maxRecDepth 100000
abbrev zMe:QM:=⟨⟨#[]⟩,0,0,0,[]⟩
abbrev EM (k c sl:Int)(name:ByteArray)(v:QV)(cn:ByteArray)(args:List QV):StE:=⟨k,c,sl,name,zMe,v,cn,args⟩
abbrev noB:ByteArray:=⟨#[]⟩
def xuq:List StE:=[EM 1 0 1 ⟨#[65]⟩ BC noB [],EM 3 4 0 noB BC noB [],EM 7 0 0 noB BC noB [],EM 4 0 0 noB ⟨3,2⟩ ⟨#[43]⟩ [⟨3,5⟩],EM 8 0 0 noB BC noB []]
theorem xuT:GR ⟨xlV,[],[],[]⟩ xuq=[⟨0,4,BC⟩,⟨0,0,⟨4,0⟩⟩,⟨0,117,BC⟩,⟨0,1,⟨3,7⟩⟩,⟨0,0,BC⟩]:=by kernel_rfl
theorem xvy:(Ek ⟨xlV,[],[],[]⟩ xuq).X.heap.length=1:=by kernel_rfl
theorem xuR:(Ek ⟨xlV,[],[],[]⟩ xuq).X.cz.length=5:=by kernel_rfl
set_option maxRecDepth 8000
theorem SesAt.inn {P:Nat->Prop}{w:qW}{cv hv lv tv:Value}{s:Sn}(h:SesAt P w cv hv lv tv s):SesAt (λb=>P b/\b<w.heap.size) w cv hv lv tv s:=⟨h.c.inn Bw λ_ _=>xxV,h.h.inn BB λ_ _=>xxU,h.l.inn Dc λ_ _=>innE,h.t.inn xbD λ_ _=>innT⟩
theorem SvAt.inn {P:Nat->Prop}{w:qW}{v:Value}{l:List UInt8}(h:SvAt P w v l):SvAt (λb=>P b/\b<w.heap.size) w v l:=⟨h.1.inn xxa λ_ _ h=>h,h.2⟩
def HasS (P:Nat->Prop)(w:qW)(sb:Nat)(s:Sn):Prop:=∃cv hv lv tv sv,w.heap[sb]?=some (DR cv hv s.X.ez lv tv sv)/\SesAt (λb=>P b/\b≠sb/\b<w.heap.size) w cv hv lv tv s/\SvAt (λb=>P b/\b≠sb/\b<w.heap.size) w sv s.saved
theorem HasS.keep {P Q:Nat->Prop}{w w':qW}{sb:Nat}{s:Sn}(h:HasS P w sb s)(f:∀b,(P b\/b=sb)->b<w.heap.size->w'.heap[b]?=w.heap[b]?)(j:w.heap.size<=w'.heap.size)(a:∀b,P b->b<w.heap.size->Q b):HasS Q w' sb s:=by
 obtain⟨cv,hv,lv,tv,sv,c,g,i⟩:=h;have d:Keeps (λb=>P b/\b≠sb/\b<w.heap.size) w w':=Keeps.of_block λb h a=>f b (.inl h.1) a;have e:∀b,(P b/\b≠sb/\b<w.heap.size)->(Q b/\b≠sb/\b<w'.heap.size):=λb h=>⟨a b h.1 h.2.2,h.2.1,by omega⟩
 exact⟨cv,hv,lv,tv,sv,(f sb (.inr rfl) (By c)).trans c,g.keep d e,i.keep d e⟩
theorem HasS.mono {P Q:Nat->Prop}{w:qW}{sb:Nat}{s:Sn}(h:HasS P w sb s)(a:∀b,P b->b<w.heap.size->Q b):HasS Q w sb s:=h.keep (λ_ _ _=>rfl) (Bq _) a
theorem xwj {n:Nat}{Z:qW}{cv hv lv tv sv:Value}{s:Sn}(a:SesAt (λb=>n<=b) Z cv hv lv tv s)(c:SvAt (λb=>n<=b) Z sv s.saved):HasS (λb=>n<=b) (Z.alloc (qC #[cv,hv,J s.X.ez,lv,tv,sv] 31)) Z.heap.size s:=by
 have d:=Bg Z (qC #[cv,hv,J s.X.ez,lv,tv,sv] 31);exact⟨cv,hv,lv,tv,sv,BH _ _,a.inn.keep (Keeps.of_below d) λb h=>⟨h.1,by omega,by simp;omega⟩,c.inn.keep (Keeps.of_below d) λb h=>⟨h.1,by omega,by simp;omega⟩⟩
theorem xxE {n sb:Nat}{Z Y:qW}{cv hv lv tv sv:Value}{s:Sn}(a:SesAt (λb=>n<=b) Z cv hv lv tv s)(c:SvAt (λb=>n<=b) Z sv s.saved)(e:Chg sb Z Y)(f:Y.heap[sb]?=some (DR cv hv s.X.ez lv tv sv))(i:sb<n):HasS (λb=>n<=b) Y sb s:=by
 have d:Keeps (λb=>n<=b/\b<Z.heap.size) Z Y:=e.keeps (by omega);have g:=e.size;exact⟨cv,hv,lv,tv,sv,f,a.inn.keep d λb h=>⟨h.1,by omega,by omega⟩,c.inn.keep d λb h=>⟨h.1,by omega,by omega⟩⟩
def xdV (x:StE)(mv av:Value):List Value:=[J x.kind,qZ x.name,J x.cls,J x.slots,qZ x.meth.name,J x.meth.args,J x.meth.temps,J x.meth.prim,mv,J x.sf.k,J x.sf.n,qZ x.cname,av]
theorem QK {P:Nat->Prop}{w:qW}{x:StE}{mv av:Value}(a:NamesOk x)(c:Cm P w mv x.meth.code)(b:CG P w av x.args):Cells xrV 13 P w (xdV x mv av) [x]:=
 Cells.one MG rfl ⟨rfl,rfl,rfl,rfl,rfl,rfl,rfl,rfl,rfl,rfl,rfl,a,mv,av,rfl,c,rfl,b⟩
theorem xgc {P:Nat->Prop}{w:qW}{g:Nat}{v:QV}{t:TypeId}(b:w.heap[g]?=some (qC #[J v.k,J v.n] t (0,0)))(a:P g):CG P w (qG g 1 1) [v]:=
 Cells.row (cs:=[J v.k,J v.n]) (Cells.one BZ rfl ⟨rfl,rfl⟩) BZ a b rfl (Bq _) (by unfold maxLen;omega) (by simp)
theorem xl5 {x:StE}(h:x.name.size<=100/\x.meth.name.size<=100/\x.cname.size<=100):NamesOk x:=⟨by omega,by omega,by omega⟩
theorem xlM {P:Nat->Prop}{w:qW}{g n c:Nat}{rs:List ReE}(h:xhg P w (qG g n c) rs){j:Nat}{r:ReE}(l:rs[j]?=some r):w.cell? (O g (j*4))=some (J r.err)/\w.cell? (O g (j*4+1))=some (J r.n)/\w.cell? (O g (j*4+2))=some (J r.v.k)/\w.cell? (O g (j*4+3))=some (J r.v.n):=by
 obtain⟨ad,cap,e,-,-,-,m⟩:=h;simp only[Value.slice.injEq] at e;obtain⟨rfl,-,-⟩:=e;obtain⟨b,o,e,-,d,a,f,i⟩:=m j r l;simp only[Option.some.injEq,Addr.mk.injEq] at e;obtain⟨rfl,rfl,-⟩:=e;simp only[Nat.zero_add,Nat.add_zero] at d a f i;exact⟨d,a,f,i⟩
theorem xvj {n:Nat}:∀(l:List StE) (i:Nat) (s:Sn),SInv i s->i+l.length<=1000->Hg s (n+401*l.length)->Hg (Ek s l) n
 | [],_,_,_,_,h=>h
 | x :: l,i,s,hI,hl,h=>by
  simp only[List.length_cons] at hl h;exact xvj l (i+1) _ (Nd hI (by omega) x).inv (by omega) (xsc hI (h.mono (by omega)) x)
theorem xxO:(Tryz.prog.info? 26).map (λi=>(i.zero,i.size,i.bytes))=some (some (.agg #[qN,qN,J 0]),3,56):=by kernel_rfl
theorem xxv (a b c d e f:Value)(w:qW):(Instr.field 31 (.agg #[a,b,c,d,e,f]) 0).run Tryz.prog w=.ok (.agg #[a,b,c]) w:=by
 obtain⟨i0,j,i,g,h⟩:=Gb xxO;simp[Instr.field,run_underlying Tryz.underlying31,part,sizeOf,typeInfo,j,g,asAgg]
theorem xxh (s:Sn):Cg s (EM 0 0 0 noB BC noB [])=(s,Ct 1 0):=by unfold Cg;simp
theorem NH {k c sl:Int}{v:QV}{a:List QV}:NamesOk (EM k c sl noB v noB a):=xl5 ⟨by show noB.size<=100;decide,by show noB.size<=100;decide,by show noB.size<=100;decide⟩
theorem xxF (w:qW)(hV:Vars w):Calls Tryz.prog 17 #[] w λe w'=>e=.returned (.bool true)/\qY w w':=by
 have hG:∀o,((w.alloc (qC #[J 3,J 5] 41)).alloc o).heap[w.heap.size]?=some (qC #[J 3,J 5] 41 (0,0)):=λo=>Bs (BH w _) (Bg _ _);have hp:=λ(w':qW) (v:Value) (h:Ps (λb=>w.heap.size<=b) w' v xuq) (W:qY w w')=>xw3 xuq (by decide) v w' h ((hV.from.on W).mono W.size);go_enter Tryz.func17,Tryz.ntmps17;go_wp2_with fail;refine (hp _ _ ?_ (BG _ _ _)).mono ?_
 ·refine Cells.row (((((QK (x:=EM 1 0 1 ⟨#[65]⟩ BC noB []) (xl5 ⟨by decide,by decide,by decide⟩) Gq Gq).append MG (QK (x:=EM 3 4 0 noB BC noB []) NH Gq Gq)).append MG (QK (x:=EM 7 0 0 noB BC noB []) NH Gq Gq)).append MG (QK (x:=EM 4 0 0 noB ⟨3,2⟩ ⟨#[43]⟩ [⟨3,5⟩]) (xl5 ⟨by decide,by decide,by decide⟩) Gq (xgc (v:=⟨3,5⟩) (hG _) (Bq _)))).append MG (QK (x:=EM 8 0 0 noB BC noB []) NH Gq Gq)) MG ?_ (Dh _ _ _ (by simp)) ?_ (Bq _) (by unfold maxLen;decide) (by decide)
  ·simp
  rfl
 rintro e Z ⟨cv,hv,lv,tv,sv,g,rfl,N,T,a,R⟩;have W:=Bh (BG w _ _) R;rw[xuT] at a;obtain⟨-,q1,-,-⟩:=xlM a (j:=0) rfl;obtain⟨-,-,-,q7⟩:=xlM a (j:=3) rfl;obtain⟨q8,-,-,-⟩:=xlM a (j:=4) rfl;have a6:Hg (Ek xcU xuq) 400:=xvj xuq 0 xcU xiT (by decide) (xqO.mono (by decide));have a7:=hid xuR;have a9:=hid xvy;generalize Ek xcU xuq=S at *;obtain⟨b1,j1,rfl,-⟩:=id N.c;obtain⟨b2,j2,rfl,-⟩:=id N.h;obtain⟨b3,j3,rfl,-⟩:=id N.l;obtain⟨b4,j4,rfl,-⟩:=id N.t;obtain⟨sa,sc,rfl⟩:=T.get;clear a hp hG R;have Y:=Bg Z (qF S b1 j1 b2 j2 b3 j3 b4 j4 (qS sa S.saved.length sc));have a1:(Z.alloc (qF S b1 j1 b2 j2 b3 j3 b4 j4 (qS sa S.saved.length sc))).heap[Z.heap.size]?=some (qF S b1 j1 b2 j2 b3 j3 b4 j4 (qS sa S.saved.length sc)):=BH _ _;have a2:Z.heap.size<(Z.alloc (qF S b1 j1 b2 j2 b3 j3 b4 j4 (qS sa S.saved.length sc))).heap.size:=by simp
 replace q1:=Bf Y q1;replace q7:=Bf Y q7;replace q8:=Bf Y q8;replace N:=N.keep (Keeps.of_below Y) λ_ h=>h;replace T:=T.keep (Keeps.of_below Y) λ_ h=>h;replace W:=Bh W Y;go_upto_region 2 with (fail);clear Y;generalize (Z.alloc (qF S b1 j1 b2 j2 b3 j3 b4 j4 (qS sa S.saved.length sc)))=U at *;generalize Z.heap.size=bs at *;go_wp2_with fail;refine (xpJ U).mono ?_;rintro e U1 ⟨r,s,rfl,n,R⟩;replace q1:=Bf R q1;replace q7:=Bf R q7;replace q8:=Bf R q8;replace N:=N.keep (Keeps.of_below R) λ_ h=>h;replace T:=T.keep (Keeps.of_below R) λ_ h=>h;replace a1:=Bs a1 R;replace a2:=Cd a2 R.size;replace W:=Bh W R;clear R;have a4:=Pb (Q:=λ_=>True) xcU xiT (by decide) (xqO.mono (by decide)) (EM 0 0 0 noB BC noB []) NH r s (qN) (qN) (qN) (qN) (qN) U1 n SvAt.nil ((hV.from.on W).mono W.size) Gq Gq;rw[xxh] at a4;obtain⟨b5,j5,rfl,-⟩:=id n.c;obtain⟨b6,j6,rfl,-⟩:=id n.h;go_wp2_with fail;refine a4.mono ?_;rintro e U2 ⟨M,z,y,K,L,rfl,d,q,R⟩;replace q1:=Bf R q1;replace q7:=Bf R q7;replace q8:=Bf R q8;replace N:=N.keep (Keeps.of_below R) λ_ h=>h;replace T:=T.keep (Keeps.of_below R) λ_ h=>h
 replace a1:=Bs a1 R;replace a2:=Cd a2 R.size;replace W:=Bh W R;clear R a4;obtain⟨b7,j7,rfl,-⟩:=id d.c;obtain⟨b8,j8,rfl,-⟩:=id d.h;obtain⟨b9,j9,rfl,-⟩:=id d.l;obtain⟨k,m,rfl,-⟩:=id d.t;obtain⟨i,f,rfl⟩:=q.get;clear n d q;have a3:=λ(w':qW) (W:qY U2 w')=>xvF S a6 (qS b1 S.X.cz.length j1) (qS b2 S.X.heap.length j2) (qS b3 S.cells.length j3) (qS b4 S.ts.length j4) (qS sa S.saved.length sc) w' (N.keep (Keeps.of_below W) λ_ h=>h) (T.keep (Keeps.of_below W) λ_ h=>h);have a0:=BG U2 (qF xcU b7 j7 b8 j8 b9 j9 k m (qS i xcU.saved.length f)) (qC #[J 1,J 0,J 0,J 0] 43);have a8:((U2.alloc (qF xcU b7 j7 b8 j8 b9 j9 k m (qS i xcU.saved.length f))).alloc (qC #[J 1,J 0,J 0,J 0] 43)).heap[U2.heap.size]?=some (qF xcU b7 j7 b8 j8 b9 j9 k m (qS i xcU.saved.length f)):=Bs (BH _ _) (Bg _ _);have aa:((U2.alloc (qF xcU b7 j7 b8 j8 b9 j9 k m (qS i xcU.saved.length f))).alloc (qC #[J 1,J 0,J 0,J 0] 43)).heap[U2.heap.size+1]?=some (qC #[J 1,J 0,J 0,J 0] 43 (0,0)):=Dh _ _ _ (by simp);have a5:=a3 _ a0;replace q1:=Bf a0 q1;replace q7:=Bf a0 q7;replace q8:=Bf a0 q8;replace a1:=Bs a1 a0;replace W:=Bh W a0;clear a3 N T;go_upto_region 3 with (fail)
 clear a0;generalize ((U2.alloc (qF xcU b7 j7 b8 j8 b9 j9 k m (qS i xcU.saved.length f))).alloc (qC #[J 1,J 0,J 0,J 0] 43))=V at *;generalize U2.heap.size=n2 at *;obtain⟨-,s0,s1,s2,s3,s4,s5⟩:=EH a1;obtain⟨-,t0,t1,t2,t3,t4,t5⟩:=EH a8;obtain⟨-,r0,r1,r2,r3⟩:=Ec aa;rw[show xcU.X.cz.length=4 from rfl] at t0;rw[a7.out] at a5 s0;rw[a9.out] at a5 s1;have ab:xuq.length=5:=rfl;go_wp2_with fail;refine a5.mono ?_;rintro e V2 ⟨C,G,B,F,H,rfl,p,u,R⟩;obtain⟨c1,c2,rfl,-⟩:=id p.c;obtain⟨c3,c4,rfl,-⟩:=id p.h;obtain⟨c5,c6,rfl,-⟩:=id p.l;obtain⟨c7,c8,rfl,-⟩:=id p.t;obtain⟨c9,D,rfl⟩:=u.get;have h5:=a7.out;have f1:=xxv;have f2:=xvw;go_wp2;refine Bt (v:=.bool true) ?_ rfl ⟨rfl,Bh W R⟩;simp[results,Tryz.results17,go_sem]
theorem xvb {P Q:Nat->Prop}(xs:List QI)(va vb:Value)(w:qW)(r:Cm P w va xs)(s:Cm Q w vb xs):Calls Tryz.prog 36 #[va,vb] w λe w'=>e=.returned (.bool true)/\qY w w':=by
 obtain⟨ad,cap,rfl,t,h,l,d⟩:=r;obtain⟨k,cap',rfl,m,f,i,a⟩:=s;go_enter Tryz.func36,Tryz.ntmps36;go_wp2
 go_loopg [13] xs.length (λg c wr=>∃j:Nat,j+g=xs.length/\c=J j/\∃n,wr=w.drewN n)
 case atStart=>exact⟨0,by omega,rfl,0,rfl⟩
 case round=>
  obtain⟨j,u,rfl,nn,rfl⟩:=hrel;by_cases hlt:j<xs.length
  ·obtain⟨b,o,rfl,-,q0,q1,q2,q3,q4,-⟩:=d j xs[j] (by simp[hlt]);obtain⟨b',o',rfl,-,k0,k1,k2,k3,k4,-⟩:=a j xs[j] (by simp[hlt]);generalize xs[j]=x at *;simp only[Nat.add_zero] at q0 k0;have p:(j:Int)<(xs.length:Int):=by omega
   have q:(0:Int)<=(j:Int):=by omega
   clear d a;go_wp2;go_quiet (fail);go_wp2;go_roundg (gk-1)
   case measure=>omega
   case rel=>exact⟨j+1,by omega,by go_num,_,rfl⟩
  go_wp2;go_ret;exact⟨rfl,below_drewN (Br _ _) _⟩
set_option maxRecDepth 100000 in
theorem xwT {P Q:Nat->Prop}(X:QW)(ca ha cb hb:Value)(w:qW)(h1:BK P w ca X.cz)(h2:BP P w ha X.heap)(h3:BK Q w cb X.cz)(h4:BP Q w hb X.heap):Calls Tryz.prog 18 #[WV ca ha X.ez,WV cb hb X.ez] w λe w'=>e=.returned (.bool true)/\qY w w':=by
 obtain⟨ad,cap,rfl,hl,S,ao,F⟩:=h1;obtain⟨ah,kh,rfl,ax,a2,az,a7⟩:=h2;obtain⟨i,cap',rfl,b4,K,a8,q⟩:=h3;obtain⟨l,h,rfl,ab,Y,a9,V⟩:=h4;unfold maxLen at S K a2 Y;go_enter Tryz.func18,Tryz.ntmps18;go_wp2;have hW:=BG w (qA ad cap ah kh X) (qA i cap' l h X);have a1:((w.alloc (qA ad cap ah kh X)).alloc (qA i cap' l h X)).cell? (O w.heap.size 1)=some (qS ah X.heap.length kh):=Bf (Bg _ _) (by rw[Bp _ _ _ _ rfl];rfl);have b0:((w.alloc (qA ad cap ah kh X)).alloc (qA i cap' l h X)).cell? (O (w.heap.size+1) 0)=some (qS i X.cz.length cap'):=by rw[Bp _ _ _ _ (by simp)];rfl
 have b1:((w.alloc (qA ad cap ah kh X)).alloc (qA i cap' l h X)).cell? (O (w.heap.size+1) 1)=some (qS l X.heap.length h):=by rw[Bp _ _ _ _ (by simp)];rfl
 generalize ((w.alloc (qA ad cap ah kh X)).alloc (qA i cap' l h X))=W at *
 go_loopg [40] X.cz.length (λg c wr=>∃j:Nat,j+g=X.cz.length/\c=J j/\qY W wr)
 case atStart=>exact⟨0,by omega,rfl,Br _ _⟩
 case round=>
  obtain⟨j,hj,rfl,a⟩:=hrel;have b5:=Bh hW a;have b0':=Bf a b0;by_cases hlt:j<X.cz.length
  ·obtain⟨b,o,rfl,-,p0,p1,p2,-,sv,p3,b8⟩:=F j X.cz[j] (by simp[hlt]);obtain⟨b',o',rfl,-,q0,q1,q2,-,U,q3,b7⟩:=q j X.cz[j] (by simp[hlt]);generalize X.cz[j]=x at *;simp only[Nat.add_zero] at p0 q0;replace p0:=Bf b5 p0;replace p1:=Bf b5 p1;replace p2:=Bf b5 p2;replace p3:=Bf b5 p3;replace q0:=λy=>Bf (Bg wr y) (Bf b5 q0);replace q1:=λy=>Bf (Bg wr y) (Bf b5 q1);replace q2:=λy=>Bf (Bg wr y) (Bf b5 q2);replace q3:=λy=>Bf (Bg wr y) (Bf b5 q3);have b0'':=λy=>Bf (Bg wr y) b0';replace b8:=b8.later xbj b5;replace b7:=b7.later xbj b5;obtain⟨am,km,rfl,ap,a6,ar,v⟩:=id b8;obtain⟨s,t,rfl,ai,R,aj,f⟩:=id b7;unfold maxLen at a6 R;have bc:(j:Int)<(X.cz.length:Int):=by omega
   have bd:(0:Int)<=(j:Int):=by omega
   go_wp2;have ba:=BG wr (qC #[qZ x.name,J x.super,J x.slots,qS am x.mz.length km] 80) (qC #[qZ x.name,J x.super,J x.slots,qS s x.mz.length t] 80);have m1:((wr.alloc (qC #[qZ x.name,J x.super,J x.slots,qS am x.mz.length km] 80)).alloc (qC #[qZ x.name,J x.super,J x.slots,qS s x.mz.length t] 80)).cell? (O (wr.heap.size+1) 3)=some (qS s x.mz.length t):=by rw[Bp _ _ _ _ (by simp)];rfl
   obtain⟨go,a5⟩:∃go,go=gk:=⟨_,rfl⟩;have bb:=Bh a ba;replace b8:=b8.later xbj ba;replace b7:=b7.later xbj ba;clear p0 p1 p2 p3 q0 q1 q2 q3 b0' b0'' v f ba b5 a;generalize G:wr.heap.size+1=Bx at *;generalize ((wr.alloc (qC #[qZ x.name,J x.super,J x.slots,qS am x.mz.length km] 80)).alloc (qC #[qZ x.name,J x.super,J x.slots,qS s x.mz.length t] 80))=W2 at *
   go_loopg [81] x.mz.length (λg c wi=>∃k:Nat,k+g=x.mz.length/\c=J k/\qY W2 wi)
   case atStart=>exact⟨0,by omega,rfl,Br _ _⟩
   case round=>
    obtain⟨k,hk,rfl,p⟩:=hrel;by_cases hkl:k<x.mz.length
    ·obtain⟨aw,an,e0,-,-,-,v⟩:=b8.later xbj p;simp only[Value.slice.injEq] at e0;obtain⟨rfl,-,rfl⟩:=e0;obtain⟨ak,aa,m,-,-,-,f⟩:=b7.later xbj p;simp only[Value.slice.injEq] at m;obtain⟨rfl,-,rfl⟩:=m;obtain⟨b,o,rfl,-,p0,p1,p2,p3,-,sv,p4,N⟩:=v k x.mz[k] (by simp[hkl]);obtain⟨b',o',rfl,-,q0,q1,q2,q3,-,U,q4,D⟩:=f k x.mz[k] (by simp[hkl]);generalize x.mz[k]=y at *;simp only[Nat.add_zero] at p0 q0;replace q0:=λy=>Bf (Bg wr y) q0;replace q1:=λy=>Bf (Bg wr y) q1;replace q2:=λy=>Bf (Bg wr y) q2;replace q3:=λy=>Bf (Bg wr y) q3;replace q4:=λy=>Bf (Bg wr y) q4;have m1':=λy=>Bf (Bg wr y) (Bf p m1);obtain⟨ac,kc,rfl⟩:=N.get;obtain⟨al,aq,rfl⟩:=D.get;have bf:(k:Int)<(x.mz.length:Int):=by omega
     have bg:(0:Int)<=(k:Int):=by omega
     clear v f;go_wp2_with (go_at_call 36;refine (xvb y.code _ _ _ (N.later BR (by first | exact BG _ _ _ | exact (BG _ _ _).drew)) (D.later BR (by first | exact BG _ _ _ | exact (BG _ _ _).drew))).mono ?_;rintro e w5 ⟨rfl,Z⟩);go_roundg (gk-1)
     case measure=>omega
     case rel=>exact⟨k+1,by omega,by go_num,Bh p (Bh (BG _ _ _) Z)⟩
    go_wp2;go_roundg (go-1)
    case measure=>omega
    case rel=>exact⟨j+1,by omega,by go_num,Bh bb p⟩
  have a1':=Bf a a1;have b1':=Bf a b1;have b5:=Bh hW a;clear F q b0' a1 b1 b0;go_wp2;have be:=b5;generalize wr=W3 at *
  go_loopg [130] X.heap.length (λg c wr=>∃j:Nat,j+g=X.heap.length/\c=J j/\qY W3 wr)
  case atStart=>exact⟨0,by omega,rfl,Br _ _⟩
  case round=>
   obtain⟨j,hj,rfl,a⟩:=hrel;have cb1:=Bf a b1';have b5:=Bh be a;by_cases hlt:j<X.heap.length
   ·obtain⟨b,o,rfl,-,H,sv,M,b9⟩:=a7 j X.heap[j] (by simp[hlt]);obtain⟨b',o',rfl,-,r,U,B,b6⟩:=V j X.heap[j] (by simp[hlt]);generalize X.heap[j]=x at *;simp only[Nat.add_zero] at H r;have u1:=Bf b5 H;have u2:=Bf b5 M;have u1':=Bf b5 r;have u2':=Bf b5 B;replace b9:=b9.later BZ b5;replace b6:=b6.later BZ b5;clear H M r B;obtain⟨u,d,rfl,av,L,af,-⟩:=id b9;obtain⟨ag,a4,rfl,ae,z,a3,-⟩:=id b6;unfold maxLen at L z;have bc:(j:Int)<(X.heap.length:Int):=by omega
    have bd:(0:Int)<=(j:Int):=by omega
    have k1:=λx=>Bf (Bg wr x) u1;have k2:=λx=>Bf (Bg wr x) u2;have k1':=λx=>Bf (Bg wr x) u1';have k2':=λx=>Bf (Bg wr x) u2';have kb:=λx=>Bf (Bg wr x) cb1;go_wp2;go_quiet (fail);go_wp2;have hD:qY wr ((wr.alloc (qC #[J x.cls,qS u x.slots.length d] 84)).drewN nq):=below_drewN (Bg _ _) nq;have m1:((wr.alloc (qC #[J x.cls,qS u x.slots.length d] 84)).drewN nq).cell? (O wr.heap.size 1)=some (qS u x.slots.length d):=by simp
    have m2:=Bf hD u2';have mb:=Bf hD cb1;have bb:=Bh a hD;obtain⟨Bx,G⟩:∃Bx,Bx=wr.heap.size:=⟨_,rfl⟩;rw[← G] at m1 ⊢;clear G;replace b9:=b9.later BZ hD;replace b6:=b6.later BZ hD;clear k1 k2 k1' k2' kb u1 u2 u1' u2' cb1 hD;generalize (wr.alloc (qC #[J x.cls,qS u x.slots.length d] 84)).drewN nq=W2 at *;clear a b5;obtain⟨go,a5⟩:∃go,go=gk:=⟨_,rfl⟩
    go_loopg [160] x.slots.length (λg c wi=>∃k:Nat,k+g=x.slots.length/\c=J k/\∃n,wi=W2.drewN n)
    case atStart=>exact⟨0,by omega,rfl,0,rfl⟩
    case round=>
     obtain⟨k,hk,rfl,nn,rfl⟩:=hrel;by_cases hkl:k<x.slots.length
     ·obtain⟨a0,c0,e0,-,-,-,T⟩:=b9;simp only[Value.slice.injEq] at e0;obtain⟨rfl,-,rfl⟩:=e0;obtain⟨au,ay,m,-,-,-,C⟩:=b6;simp only[Value.slice.injEq] at m;obtain⟨rfl,-,rfl⟩:=m;obtain⟨b2,o2,rfl,-,q1,q2⟩:=T k x.slots[k] (by simp[hkl]);obtain⟨b3,o3,rfl,-,q3,q4⟩:=C k x.slots[k] (by simp[hkl]);generalize x.slots[k]=y at *;simp only[Nat.add_zero] at q1 q3;have bf:(k:Int)<(x.slots.length:Int):=by omega
      have bg:(0:Int)<=(k:Int):=by omega
      clear T C;go_wp2;go_quiet (fail);go_wp2;go_roundg (gk-1)
      case measure=>omega
      case rel=>exact⟨k+1,by omega,by go_num,_,rfl⟩
     go_wp2;go_roundg (go-1)
     case measure=>omega
     case rel=>exact⟨j+1,by omega,by go_num,below_drewN bb nn⟩
   go_wp2;go_ret;exact⟨rfl,b5⟩
structure LoQ (Q:StE->Prop)(s0:Sn)(i0 n0:Nat)(P:Nat->Prop)(W0:qW)(bb:Nat)(j:Nat)(wr:qW)(s:Sn):Prop where
 st:∃L,s=Ek s0 L/\L.length<=j/\∀x∈L,Q x
 inv:SInv (i0+j) s
 few:Hg s (400+401*(n0-j))
 kp:Kp (λt=>t=3) (Gd bb) W0 wr
 has:HasS P wr bb s
theorem xv2 (s:Sn)(L:List StE)(x:StE):Ek s (L++[x])=(Cg (Ek s L) x).1:=by unfold Ek;rw[List.foldl_append];rfl
theorem LoQ.next {Q:StE->Prop}{s0:Sn}{i0 n0:Nat}{P:Nat->Prop}{W0:qW}{bb j n:Nat}{wr Z Y:qW}{s:Sn}{x:StE}{cv hv lv tv sv:Value}(h:LoQ Q s0 i0 n0 P W0 bb j wr s)(C:j<n0)(D:i0+n0<1000)(u:Q x)(l:qY wr Z)
  (d:SesAt (λb=>n<=b) Z cv hv lv tv (Cg s x).1) (c:SvAt (λb=>n<=b) Z sv (Cg s x).1.saved) (g:Chg bb Z Y) (v:Y.heap[bb]?=some (DR cv hv (Cg s x).1.X.ez lv tv sv)) (a:bb<n) (f:bb<W0.heap.size) (q:∀b,n<=b->P b):LoQ Q s0 i0 n0 P W0 bb (j+1) Y (Cg s x).1:=by
 obtain⟨⟨L,r,F,B⟩,p,t,k,G⟩:=h;have a1:=l.size;have a2:=g.size;have a3:=k.size;refine⟨⟨L++[x],by rw[xv2,← r],by simp;omega,λy z=>?_⟩,(Nd p Zo x).inv.later Zo,xsc p (t.mono Zo) x,⟨g.os.trans (l.os.trans k.os),g.tape.trans (l.tape.trans k.tape),g.output.trans (l.output.trans k.output),by omega,λb o i=>?_⟩,(xxE d c g v a).mono λb h _=>q b h⟩
 ·rcases List.mem_append.1 z with h | h
  ·exact B y h
  obtain rfl:=List.mem_singleton.1 h;exact u
 have m:b≠bb:=λe=>i (by rw[e];exact xgK bb);rw[g.blk b m,l.block b Zo,k.blk b o i]
theorem xvJ {sb:Nat}{w W0 wr:qW}(h:Kp (λt=>t=3) (Gd sb) W0 wr)(a:qY w W0)(d:w.heap.size<=sb):qY w wr:=by
 have a1:=a.size;have a2:=h.size;exact⟨h.os.trans a.os,h.tape.trans a.tape,h.output.trans a.output,by omega,λb c=>(h.blk b (by omega) (by rw[Eb (by omega)];omega)).trans (a.block b c)⟩
theorem xyu {w:qW}{l:List Int}(c:l.length<=1000)(n:Nat)(a:w.heap.size=n):LH (λb=>n<=b) (w.alloc (.cells (NG l).toArray 3 (0,0))) (qG n l.length l.length) l:=
 Cells.row (xp7 l) xrH (Bq _) (Dh _ _ _ a) (by rw[List.take_of_length_le (by simp[NG])];simp[NG]) (Bq _) (by unfold maxLen;omega) (by omega)
def NextP (w:qW)(x:QI)(p:Int)(e:Ending)(w':qW):Prop:=
 ∃a k,e=.returned (.tuple #[J (Cb x p).need,J (Cb x p).more,qS a (Cb x p).next.length k])/\LH (λb=>w.heap.size<=b) w' (qS a (Cb x p).next.length k) (Cb x p).next/\qY w w'
theorem NextP.mk {w W:qW}{x:QI}{p c a:Int}{l:List Int}{e:Ending}{n:Nat}(h:Cb x p=⟨c,a,l⟩)(i:W.heap.size=n)(g:l.length<=1000)(j:w.heap.size<=n)(f:e=.returned (.tuple #[J c,J a,qG n l.length l.length]))(d:qY w W):NextP w x p e (W.alloc (.cells (NG l).toArray 3 (0,0))):=by
 unfold NextP;rw[h];exact⟨_,_,f,(xyu g n i).mono xrH λb d=>by omega,d.alloc (by omega) _⟩
theorem NextP.drew {w w':qW}{x:QI}{p:Int}{e:Ending}(h:NextP w x p e w'):NextP w x p e w'.drew:=by
 obtain⟨a,k,b,c,d⟩:=h;exact⟨a,k,b,c.later xrH (Br _ _).drew,d.drew⟩
theorem xyq (x:QI)(p:Int)(w:qW)(c:x.op=14->0<=x.a/\x.a<=4)(i:IntKind.i64.wrap (p+1)=p+1):Calls Tryz.prog 91 #[IV x,J p] w λe w'=>NextP w x p e w':=by
 obtain⟨op,xa,xb,xc,nm⟩:=x;simp only at c;have d:=Bg w (qC #[J op,J xa,J xb,J xc,qZ nm] 69);go_enter Tryz.func91,Tryz.ntmps91;by_cases b:op=9\/op=11\/op=12
 ·rcases b with rfl | rfl | rfl
  all_goals
   go_wp2;refine Bt (v:=.tuple #[J 1,J (-1),qG (w.heap.size+1) 1 1]) (by simp[results,Tryz.results91,go_sem]) rfl (NextP.mk (l:=[p+1]) (by simp[Cb]) (by simp) (by simp) Zo rfl (Bg _ _))
 by_cases h2:op=10
 ·subst h2;go_wp2;refine Bt (v:=.tuple #[J (1),J (1),qG (w.heap.size+1) 1 1]) (by simp[results,Tryz.results91,go_sem]) rfl (NextP.mk (l:=[p+1]) (by simp[Cb]) (by simp) (by simp) Zo rfl (Bg _ _))
 by_cases h3:op=14
 ·subst h3;obtain⟨q1,q2⟩:=c rfl;have f:IntKind.i64.wrap (xa+1)=xa+1:=CM Zo Zo;have g:IntKind.i64.wrap (-xa)=-xa:=CM Zo Zo;go_wp2
  go_region
  all_goals go_wp2
  all_goals refine Bt (v:=.tuple #[J (xa+1),J (-xa),qG (w.heap.size+1) 1 1]) (by simp[results,Tryz.results91,go_sem]) rfl ?_
  all_goals exact (NextP.mk (l:=[p+1]) (by simp[Cb]) (by simp) (by simp) Zo rfl (Bg _ _)).drew
 by_cases h4:op=15
 ·subst h4;go_wp2
  go_region
  all_goals go_wp2
  all_goals refine Bt (v:=.tuple #[J 0,J 0,qG (w.heap.size+1) 1 1]) (by simp[results,Tryz.results91,go_sem]) rfl ?_
  all_goals exact (NextP.mk (l:=[xa]) (by simp[Cb]) (by simp) (by simp) Zo rfl (Bg _ _)).drew
 by_cases h5:op=16
 ·subst h5;go_wp2
  go_region
  all_goals go_wp2
  all_goals refine Bt (v:=.tuple #[J 1,J (-1),qG (w.heap.size+1) 2 2]) (by simp[results,Tryz.results91,go_sem]) rfl ?_
  all_goals exact (NextP.mk (l:=[p+1,xa]) (by simp[Cb]) (by simp) (by simp) Zo rfl (Bg _ _)).drew
 by_cases h6:op=17
 ·subst h6;go_wp2;refine Bt (v:=.tuple #[J 1,J (-1),qN]) (by simp[results,Tryz.results91,go_sem]) rfl ?_;unfold NextP;rw[show Cb ⟨17,xa,xb,xc,nm⟩ p=⟨1,-1,[]⟩ from by simp[Cb]];exact⟨none,0,rfl,GZ,Bg _ _⟩
 have n1:¬ op=9:=λh=>b (Or.inl h);have n2:¬ op=11:=λh=>b (Or.inr (Or.inl h));have n3:¬ op=12:=λh=>b (Or.inr (Or.inr h));go_wp2;refine Bt (v:=.tuple #[J 0,J 1,qG (w.heap.size+1) 1 1]) (by simp[results,Tryz.results91,go_sem]) rfl (NextP.mk (l:=[p+1]) (by simp[Cb,h2,h3,h4,h5,h6,n1,n2,n3]) (by simp) (by simp) Zo rfl (Bg _ _))
abbrev RowI (w:qW)(base g k:Nat)(l:List Int):Prop:=w.ownsRow base 3 1 (qG g l.length k) l.length (NG l)
theorem RowI.lt {w:qW}{base g k:Nat}{l:List Int}(h:RowI w base g k l):base<=g/\g<w.heap.size:=by
 obtain⟨-,⟨e,-⟩ | ⟨g',c,cur,e,a,b,-⟩⟩:=h
 ·cases e
 cases e;exact⟨a,By b⟩
theorem RowI.keep {w w':qW}{base g k:Nat}{l:List Int}(h:RowI w base g k l)(i:w'.heap[g]?=w.heap[g]?):RowI w' base g k l:=by
 obtain⟨a,⟨e,-⟩ | ⟨g',c,cur,e,b,d,f⟩⟩:=h
 ·cases e
 cases e;exact⟨a,Or.inr ⟨g,k,cur,rfl,b,i.trans d,f⟩⟩
theorem RowI.cell {w:qW}{base g k:Nat}{l:List Int}(h:RowI w base g k l){j:Nat}(f:j<l.length):w.cell? (O g j)=some (J (l.getD j 0)):=by
 obtain⟨i,⟨e,-⟩ | ⟨g',c,cur,e,m,b,n,o,p,d⟩⟩:=h
 ·cases e
 cases e;have a:(NG l)[j]?=some (J (l.getD j 0)):=by simp[NG,f]
 rw[Bn b];rw[← d,List.getElem?_take] at a;split at a
 ·simpa using a
 cases a
structure TwoM (w:qW)(base gA kA gB kB:Nat)(A B:List Int):Prop where
 a:RowI w base gA kA A
 b:RowI w base gB kB B
 ne:gA≠gB
theorem TwoM.keep {w w':qW}{base gA kA gB kB:Nat}{A B:List Int}(h:TwoM w base gA kA gB kB A B)(c:∀b,base<=b->b<w.heap.size->w'.heap[b]?=w.heap[b]?):TwoM w' base gA kA gB kB A B:=
 ⟨h.a.keep (c _ h.a.lt.1 h.a.lt.2),h.b.keep (c _ h.b.lt.1 h.b.lt.2),h.ne⟩
theorem TwoM.later {w w':qW}{base gA kA gB kB:Nat}{A B:List Int}(h:TwoM w base gA kA gB kB A B)(a:qY w w'):TwoM w' base gA kA gB kB A B:=h.keep λb _ c=>a.block b c
theorem TwoM.first {w w2:qW}{base gA kA gB kB gg c:Nat}{A B:List Int}{X:Obj}{t:Int}(h:TwoM w base gA kA gB kB A B)(f:w2.ownsRow base 3 1 (qG gg (A.length+1) c) (A.length+1) (NG A++[J t]))(e:(w.alloc X).grownBy w2 (Value.ownBlock (qG gA A.length kA)))(g:(Value.ownBlock (qG gA A.length kA))=some gg\/gg=(w.alloc X).heap.size)(d:base<=w.heap.size):TwoM w2 base gg c gB kB (A++[t]) B/\Below base w w2:=by
 have m:=h.ne;have i:=h.b.lt;have j:=h.a.lt;simp[Value.ownBlock] at g;refine⟨⟨?_,(h.b.keep ((Bg w X).block _ i.2)).keep (e.block gB (by simp;omega) (by simp[Value.ownBlock];omega)),by omega⟩,?_⟩
 ·show w2.ownsRow base 3 1 (qG gg (A++[t]).length c) (A++[t]).length (NG (A++[t]));simpa [NG] using f
 exact ((Br base w).alloc d X).grown e (by simp;omega) λk l=>by simp[Value.ownBlock] at l;omega
theorem TwoM.swap {w:qW}{base gA kA gB kB:Nat}{A B:List Int}(h:TwoM w base gA kA gB kB A B):TwoM w base gB kB gA kA B A:=⟨h.b,h.a,Ne.symm h.ne⟩
structure RefH (w W0:qW)(code:List QI)(gA kA gB kB:Nat)(A B h:List Int)(wr:qW):Prop where
 two:TwoM wr (w.heap.size+3) gA kA gB kB A B
 row:wr.heap[w.heap.size+1+1]?=some (xew h)
 bel:Below (w.heap.size+2) W0 wr
 size:w.heap.size+3<=wr.heap.size
 len:A.length=B.length
theorem RefH.later {w W0:qW}{code:List QI}{gA kA gB kB:Nat}{A B h:List Int}{wr w':qW}(a:RefH w W0 code gA kA gB kB A B h wr)(b:qY wr w'):RefH w W0 code gA kA gB kB A B h w':=
 ⟨a.two.later b,Bs a.row b,a.bel.trans (b.mono (by have:=a.size;omega)),BX a.size b.size,a.len⟩
theorem xyw {A B:List Int}(c:A.length=B.length){k:Nat}(b:k<A.length):(A.zip B).drop k=(A.getD k 0,B.getD k 0) :: (A.zip B).drop (k+1):=by
 have a:k<(A.zip B).length:=by simp;omega
 rw[List.drop_eq_getElem_cons a]
 congr 1
 simp[show k<B.length by omega,b]
theorem xyv {A B:List Int}(b:A.length=B.length){k:Nat}(c:k<=A.length)(l:List Int)(v:Int):((A++l).zip (B++l.map λ_=>v)).drop k=(A.zip B).drop k++l.map λt=>(t,v):=by
 rw[List.zip_append b,List.drop_append_of_le_length (by simp;omega)]
 congr 1
 induction l with
 | nil=>rfl
 | cons a r ih=>simp[ih]
theorem xx9 {P:Nat->Prop}(m:QM)(mv:Value)(w:qW)(hc:Cm P w mv m.code)(hs:Lr m.code):Calls Tryz.prog 63 #[MV m mv] w λe w'=>xpV w m.code e w':=by
 obtain⟨ad,cap,rfl,a4,K,a3,S⟩:=id hc;unfold maxLen at K;obtain⟨i0,hi,U,V,X⟩:=Gb xsm;have ce:=xgW m.code.length Zo;go_enter Tryz.func63,Tryz.ntmps63;go_wp2;generalize am:((w.alloc (qD m ad cap)).alloc (qC #[J 0,J 0] 90))=W0 at *;have bb:W0.heap.size=w.heap.size+1+1:=by rw[← am];simp
 have b5:qY w W0:=by rw[← am];exact BG _ _ _
 have mb:W0.heap[w.heap.size]?=some (qD m ad cap):=by rw[← am,(Bg _ _).block _ (by simp)];exact Dh _ _ _ rfl
 have rb:W0.heap[w.heap.size+1]?=some (qC #[J 0,J 0] 90 (0,0)):=by rw[← am];exact Dh _ _ _ (by simp)
 clear am
 go_loopg [22] m.code.length (λg i wr=>∃j:Nat,j+g=m.code.length/\i=J j/\Below (w.heap.size+2) W0 wr/\wr.heap.size=w.heap.size+3/\wr.heap[w.heap.size+1+1]?=some (xew (List.replicate j (-1)++List.replicate (m.code.length-j) 0)))
 case atStart=>exact⟨0,by omega,rfl,(Bg _ _).mono Zo,by simp[bb],by simpa using Dh W0 (xew (List.replicate m.code.length 0)) _ bb⟩
 case round=>
  obtain⟨j,hg,rfl,hb,hz,hr⟩:=hrel;by_cases hj:j<m.code.length
  ·have bo:(j:Int)<(m.code.length:Int):=by omega
   have c7:(0:Int)<=(j:Int):=by omega
   have af:=xfj hr (k:=j) (by simp;omega);have ap:=xe2 hr j;have aw:=Ql hr j (-1);rw[xp8 hj] at aw;generalize (List.replicate j (-1:Int)++List.replicate (m.code.length-j) 0).getD j 0=u at af;go_wp2;go_roundg (gk-1)
   case measure=>omega
   case rel=>exact⟨j+1,by omega,by go_num,hb.setCell (by show w.heap.size+2<=w.heap.size+1+1;omega) _,by rw[GT];exact hz,aw⟩
  obtain rfl:j=m.code.length:=by omega
  have b9:wr.heap[w.heap.size+1+1]?=some (xew (Lg m.code.length)):=by simpa [Lg] using hr
  clear hr;have bo:(m.code.length:Int)<=(m.code.length:Int):=by omega
  have ao:=BG wr (qC #[J 0] 3) (qC #[J 0] 3)
  have hT:TwoM ((wr.alloc (qC #[J 0] 3)).alloc (qC #[J 0] 3)) (w.heap.size+3) (w.heap.size+3) 1 (w.heap.size+3+1) 1 [0] [0]:=
   ⟨⟨rfl,Or.inr ⟨_,1,#[J 0],rfl,Bq _,((Bg _ _).block _ (by simp[hz])).trans (Dh _ _ _ hz),by simp,by unfold maxLen;omega,rfl,rfl⟩⟩,
    ⟨rfl,Or.inr ⟨_,1,#[J 0],rfl,by omega,Dh _ _ _ (by simp[hz]),by simp,by unfold maxLen;omega,rfl,rfl⟩⟩,by omega⟩
  have hS:RefH w W0 m.code (w.heap.size+3) 1 (w.heap.size+3+1) 1 [0] [0] (Lg m.code.length) ((wr.alloc (qC #[J 0] 3)).alloc (qC #[J 0] 3)):=
   ⟨hT,Bs b9 ao,hb.trans (ao.mono Zo),by simp[hz],rfl⟩
  go_wp2
  go_loopg [6,7,8] (2*m.code.length+1) (λg va vb kk wr=>∃(gA kA gB kB:Nat) (A B h:List Int) (k:Nat),va=qG gA A.length kA/\vb=qG gB B.length kB/\kk=J k/\k+g<=2*m.code.length+1/\k<=A.length/\Gp m.code g h ((A.zip B).drop k)=DN m.code/\HInv m.code h ((A.zip B).drop k)/\Kl h ((A.zip B).drop k)<=g/\RefH w W0 m.code gA kA gB kB A B h wr)
  case atStart=>exact⟨w.heap.size+3,1,w.heap.size+3+1,1,[0],[0],_,0,by simp[hz],by simp[hz],rfl,by omega,by simp,rfl,HInv.start _,Nat.le_of_eq (xg0 _),hS⟩
  case round=>
   obtain⟨gA,kA,gB,kB,A,B,h,k,rfl,rfl,rfl,a7,a6,hR,hI,hL,hS⟩:=hrel;clear hT ao b9 hb hz;have ab:Hid (A.length=B.length):=hS.len;by_cases hk:k<A.length
   ·have bf:=xyw ab.out hk;rw[bf] at hR hI hL;obtain⟨g',rfl⟩:∃g',gk=g'+1:=⟨gk-1,by simp[Kl] at hL;omega⟩
    have HR:Hid (Gp m.code (g'+1) h ((A.getD k 0,B.getD k 0) :: (A.zip B).drop (k+1))=DN m.code):=hR;have HI:Hid (HInv m.code h ((A.getD k 0,B.getD k 0) :: (A.zip B).drop (k+1))):=hI;have HL:Hid (Kl h ((A.getD k 0,B.getD k 0) :: (A.zip B).drop (k+1))<=g'+1):=hL;have hw:=hI.wait _ (List.mem_cons_self ..);have c0:=hI.len;simp only at hw;clear hR hI hL bf;have ca:=hS.two.a.cell hk;have cb:=hS.two.b.cell (j:=k) (by have:=ab.out;omega);obtain⟨p,hp⟩:∃p,p=A.getD k 0:=⟨_,rfl⟩;obtain⟨n,hn⟩:∃n,n=B.getD k 0:=⟨_,rfl⟩;rw[← hp] at ca HR HI HL;rw[← hn] at cb HR HI HL hw;clear hp hn;have c8:(0:Int)<=(k:Int):=by omega
    have bp:(k:Int)<(A.length:Int):=by omega
    have c9:(k:Int)<(B.length:Int):=by have:=ab.out;omega
    go_wp2;go_quiet (fail);replace hS:=hS.later (below_drewN (Br _ _) nq);clear ca cb;generalize wr.drewN nq=wq at *;have ag:qY w wq:=b5.trans (hS.bel.mono Zo);have mq:wq.heap[w.heap.size]?=some (qD m ad cap):=(hS.bel.block _ Zo).trans mb;have rq:wq.heap[w.heap.size+1]?=some (qC #[J 0,J 0] 90 (0,0)):=(hS.bel.block _ Zo).trans rb;have mc:wq.cell? (O w.heap.size 4)=some (qS ad m.code.length cap):=by rw[Bn mq];rfl
    obtain⟨rc,rf⟩:(∀q,wq.cell? (O (w.heap.size+1) q)=(#[J 0,J 0]:Array Value)[q]?)/\(∀o,wq.frozen? (O (w.heap.size+1) o)=false):=⟨λq=>by rw[Bn rq],λo=>by unfold World.frozen?;simp[rq]⟩
    have aa:Hid (∀(f:Int × Int) (W:qW),Ff m.code h (p,n)=.inl f->qY w W->xpV w m.code (.returned (.tuple #[qN,FV f])) W):=λf W a9 hb=>by
     have HE:DN m.code=([],f):=by rw[← HR.out];unfold Gp;rw[a9]
     exact⟨hb,Or.inr ⟨by rw[HE];exact xeZ a9,by rw[HE]⟩⟩
    have b6:∀(W:qW) (u v:Value),qY w W->qY w ((W.setCell (O (w.heap.size+1) 0) u).setCell (O (w.heap.size+1) 1) v):=λW u v hb=>(hb.setCell (by show w.heap.size<=w.heap.size+1;omega) _).setCell (by show w.heap.size<=w.heap.size+1;omega) _;have ak:=(show Hid (∀(W:qW) (u v:Value),qY w W->qY w ((W.setCell (O (w.heap.size+1) 0) u).setCell (O (w.heap.size+1) 1) v)) from b6)
    clear b6
    cases hx:LK m.code p with
    | none=>
     have a9:Ff m.code h (p,n)=.inl (9,(m.code.length:Int)):=by unfold Ff;simp only[hx]
     have HF:=aa.out _ (((wq.setCell (O (w.heap.size+1) 0) (J 9)).setCell (O (w.heap.size+1) 1) (J m.code.length))) a9 (ak.out _ _ _ ag);have b3:=aa.out _ (((wq.setCell (O (w.heap.size+1) 0) (J 9)).setCell (O (w.heap.size+1) 1) (J m.code.length))).drew a9 (ak.out _ _ _ ag).drew;rw[xj3] at hx;by_cases hpl:(m.code.length:Int)<=p
     ·go_wp2
      go_region
      all_goals go_wp2
      all_goals refine Bt (v:=.tuple #[qN,FV (9,m.code.length)]) ?_ rfl ?_
      all_goals first
       | (simp[results,Tryz.results63,go_sem,rc,rf];done)
       | exact HF
       | exact b3
     have bs:decide ((m.code.length:Int)<=p)=false:=by simpa using hpl
     have ch:p<0:=by omega
     go_wp2
     go_region
     all_goals go_wp2
     all_goals refine Bt (v:=.tuple #[qN,FV (9,m.code.length)]) ?_ rfl ?_
     all_goals first
      | (simp[results,Tryz.results63,go_sem,rc,rf];done)
      | exact HF
      | exact b3
    | some x=>
     obtain⟨q,rfl,F⟩:=xdW hx;have hq:=Bz F;have ci:(0:Int)<=(q:Int):=by omega
     have cj:(q:Int)<(m.code.length:Int):=by omega
     have ck:decide ((m.code.length:Int)<=(q:Int))=false:=by simp;omega
     have af:=xfj hS.row (k:=q) Zo;have ap:=xe2 hS.row q;have bd:=hs x (List.mem_of_getElem? F);obtain⟨bc,oc,rfl,-,e0,e1,e2,e3,e4,-⟩:=S q x F;simp only[Nat.add_zero] at e0;have bk:=World.block_lt_of_cell? _ _ e0;simp only at bk;obtain⟨u,hu⟩:∃u,u=h.getD q 0:=⟨_,rfl⟩
     have ai:Hid (Ff m.code h ((q:Int),n)=if 0<=u then (if u≠n then .inl (8,(q:Int)) else .inr (h,[])) else if n<(Cb x q).need\/x.op=17/\n≠1 then .inl (8,(q:Int)) else if 12<n+(Cb x q).more then .inl (4,(q:Int)) else .inr (h.set q n,(Cb x q).next.map λt=>(t,n+(Cb x q).more))):=by
      show _=_;unfold Ff;simp only[hx,Int.toNat_natCast];rw[← hu]
     rw[← hu] at af;clear hu hx;by_cases hv0:0<=u
     ·by_cases hv1:u=n
      ·have a9:Ff m.code h ((q:Int),n)=.inr (h,[]):=by rw[ai.out,if_pos hv0,if_neg (by simpa using hv1)]
       obtain⟨k1,k2⟩:=HI.out.step hs a9
       have K3:Hid (Gp m.code g' h ((A.zip B).drop (k+1))=DN m.code):=by
        show _=_;rw[← HR.out]
        conv=>rhs;unfold Gp;rw[a9]
        simp
       have k4:=HL.out;rw[List.append_nil] at k1 k2;have K1:Hid (HInv m.code h ((A.zip B).drop (k+1))):=k1;have K2:Hid (Kl h ((A.zip B).drop (k+1))<=g'):=by show _<=_;omega
       subst hv1;clear k1 k2 k4;go_wp2;go_roundg g'
       case measure=>omega
       case rel=>exact⟨gA,kA,gB,kB,A,B,h,k+1,rfl,rfl,by go_num,by omega,by omega,K3.out,K1.out,K2.out,hS⟩
      have a9:Ff m.code h ((q:Int),n)=.inl (8,(q:Int)):=by rw[ai.out,if_pos hv0,if_pos hv1]
      have HF:=aa.out _ _ a9 (ak.out wq (J 8) (J q) ag);have bw:(u != n)=true:=by simpa using hv1
      go_wp2;refine Bt (v:=.tuple #[qN,FV (8,(q:Int))]) ?_ rfl HF;simp[results,Tryz.results63,go_sem,rc,rf]
     have bv:decide (0<=u)=false:=by simpa using hv0
     have ax:RefH w W0 m.code gA kA gB kB A B (h.set q n) (wq.setCell (O (w.heap.size+1+1) q) (J n)):=by
      have be:=hS.size;refine⟨hS.two.keep λb h1 _=>BS Zo _,Ql hS.row q n,hS.bel.setCell (by show w.heap.size+2<=w.heap.size+1+1;omega) _,by rw[GT];exact hS.size,hS.len⟩
     have rq1:(wq.setCell (O (w.heap.size+1+1) q) (J n)).heap[w.heap.size+1]?=some (qC #[J 0,J 0] 90 (0,0)):=(BS Zo _).trans rq;have mq1:(wq.setCell (O (w.heap.size+1+1) q) (J n)).heap[w.heap.size]?=_:=(BS Zo _).trans mq;have mc1:(wq.setCell (O (w.heap.size+1+1) q) (J n)).cell? (O w.heap.size 4)=some (qS (some (O bc oc)) m.code.length cap):=by rw[Bn mq1];rfl
     have ae:qY w (wq.setCell (O (w.heap.size+1+1) q) (J n)):=ag.setCell (by show w.heap.size<=w.heap.size+1+1;omega) _;have j0:=Bf ae e0;have j1:=Bf ae e1;have j2:=Bf ae e2;have j3:=Bf ae e3;have j4:=Bf ae e4;go_wp2_with fail;clear mc af ap rc rf rq mq hS j0 j1 j2 j3 j4 ag mc1;generalize (wq.setCell (O (w.heap.size+1+1) q) (J n))=w5 at *;refine (xyq x q _ bd (CM Zo Zo)).mono ?_;rintro e w6 ⟨an,kn,rfl,G,l⟩;have ba:=xeC bd q;generalize bz:Cb x q=NX at *;obtain⟨d,more,next⟩:=NX;simp only at ba G;have ah:=Bh ae l;have mq6:=Bs mq1 l;have mc6:w6.cell? (O w.heap.size 4)=some (qS (some (O bc oc)) m.code.length cap):=by rw[Bn mq6];rfl
     have rq6:=Bs rq1 l;obtain⟨rc,rf⟩:(∀q,w6.cell? (O (w.heap.size+1) q)=(#[J 0,J 0]:Array Value)[q]?)/\(∀o,w6.frozen? (O (w.heap.size+1) o)=false):=⟨λq=>by rw[Bn rq6],λo=>by unfold World.frozen?;simp[rq6]⟩
     have op6:=Bf ah e0;have bi:=ax.later l;have bu:IntKind.i64.wrap (n+more)=n+more:=CM Zo Zo
     have aj:Hid (Ff m.code h ((q:Int),n)=if n<d\/x.op=17/\n≠1 then .inl (8,(q:Int)) else if 12<n+more then .inl (4,(q:Int)) else .inr (h.set q n,next.map λt=>(t,n+more))):=by
      show _=_;rw[ai.out,if_neg Zo]
     clear ai;by_cases c1:n<d
     ·have a9:Ff m.code h ((q:Int),n)=.inl (8,(q:Int)):=by rw[aj.out,if_pos (Or.inl c1)]
      have HF:=aa.out _ _ a9 (ak.out w6 (J 8) (J q) ah);go_wp2;refine Bt (v:=.tuple #[qN,FV (8,(q:Int))]) ?_ rfl HF;simp[results,Tryz.results63,go_sem,rc,rf]
     have c1':decide (n<d)=false:=by simpa using c1
     by_cases c2:x.op=17/\n≠1
     ·have a9:Ff m.code h ((q:Int),n)=.inl (8,(q:Int)):=by rw[aj.out,if_pos (Or.inr c2)]
      have HF:=aa.out _ _ a9 (ak.out w6 (J 8) (J q) ah);have c3:=c2.1;have c4:(n != 1)=true:=by simpa using c2.2
      clear c2;go_wp2;refine Bt (v:=.tuple #[qN,FV (8,(q:Int))]) ?_ rfl HF;simp[results,Tryz.results63,go_sem,rc,rf]
     have b4:Hid (¬ (n<d\/x.op=17/\n≠1)):=λh=>h.elim c1 c2
     have aq:(x.op == 17)=false\/(x.op == 17)=true/\(n != 1)=false:=by
      by_cases h17:x.op=17
      ·right;refine⟨by simpa using h17,?_⟩;have:n=1:=Classical.byContradiction λh=>c2 ⟨h17,h⟩;simp[this]
      left;simpa using h17
     clear c2;obtain⟨go,N⟩:∃go,go=g':=⟨_,rfl⟩
     go_upto_region 19 with (fail)
     go_cut [101] (λs101 wx=>s101=.bool false/\w6=wx)
     case first=>
      rcases aq with aq | ⟨aq,br⟩
      all_goals
       go_wp2_with fail;go_meet
       case rel=>exact⟨rfl,rfl⟩
     case rest=>
      obtain⟨rfl,rfl⟩:=hcut;by_cases c5:12<n+more
      ·have a9:Ff m.code h ((q:Int),n)=.inl (4,(q:Int)):=by rw[aj.out,if_neg b4.out,if_pos c5]
       have HF:=aa.out _ _ a9 (ak.out w6 (J 4) (J q) ah);go_wp2;refine Bt (v:=.tuple #[qN,FV (4,(q:Int))]) ?_ rfl HF;simp[results,Tryz.results63,go_sem,rc,rf]
      have c5':decide (12<n+more)=false:=by simpa using c5
      have a9:Ff m.code h ((q:Int),n)=.inr (h.set q n,next.map λt=>(t,n+more)):=by rw[aj.out,if_neg b4.out,if_neg c5]
      obtain⟨k1,k2⟩:=HI.out.step hs a9;have k4:=HL.out;have av:=xyv ab.out (k:=k+1) Zo next (n+more)
      have K3:Hid (Gp m.code g' (h.set q n) (((A++next).zip (B++next.map λ_=>n+more)).drop (k+1))=DN m.code):=by
       show _=_;rw[← HR.out,av]
       conv=>rhs;unfold Gp;rw[a9]
      have K1:Hid (HInv m.code (h.set q n) (((A++next).zip (B++next.map λ_=>n+more)).drop (k+1))):=by show HInv _ _ _;rw[av];exact k1
      have K2:Hid (Kl (h.set q n) (((A++next).zip (B++next.map λ_=>n+more)).drop (k+1))<=g'):=by show _<=_;rw[av];omega
      have bx:A.length<=2*m.code.length+1:=by
       have e1:((A.zip B).drop (k+1)).length+(k+1)=A.length:=by have:=ab.out;simp;omega
       simp[Kl] at k4;simp at e1;have:=ab.out;omega
      clear a9 k1 k2 k4 av HR HI HL aa;obtain⟨a2,a8,en,Y,Q,Z,R⟩:=id G;simp only[Value.slice.injEq] at en;obtain⟨rfl,-,rfl⟩:=en;unfold maxLen at Q;have bl:=ax.two.a.lt;have bm:=ax.two.b.lt;have bt:=l.size;have cg:next.length<=2:=ba.2.2.2.2.2;go_wp2
      go_loopg [6,7,112] next.length (λg2 va vb ii wi=>∃(i gA kA gB kB:Nat),i+g2=next.length/\ii=J i/\va=qG gA (A++next.take i).length kA/\vb=qG gB (B++(next.take i).map λ_=>n+more).length kB/\RefH w W0 m.code gA kA gB kB (A++next.take i) (B++(next.take i).map λ_=>n+more) (h.set q n) wi/\Keeps (λb=>w5.heap.size<=b/\b<w6.heap.size) w6 wi/\(gA<w5.heap.size\/w6.heap.size<=gA)/\(gB<w5.heap.size\/w6.heap.size<=gB)/\w6.heap.size<=wi.heap.size)
      case atStart=>exact⟨0,gA,kA,gB,kB,by omega,rfl,by simp,by simp,by simpa using bi,Keeps.refl _ _,Or.inl bl.2,Or.inl bm.2,Bq _⟩
      case round=>
       obtain⟨i,gA,kA,gB,kB,a5,rfl,rfl,rfl,c,H,L,M,T⟩:=hrel;by_cases hil:i<next.length
       ·have bn:(i:Int)<(next.length:Int):=by omega
        have c6:(0:Int)<=(i:Int):=by omega
        obtain⟨b2,o2,rfl,ao,hv⟩:=R i next[i] (List.getElem?_eq_getElem hil);have au:w6.cell? (O b2 (o2+i*1+0))=some (J next[i]):=hv;simp only[Nat.mul_one,Nat.add_zero] at au;have co:=H _ _ _ ⟨ao,World.block_lt_of_cell? _ _ au⟩ au;have ht:next.take (i+1)=next.take i++[next[i]]:=by rw[List.take_add_one,List.getElem?_eq_getElem hil];rfl
        have HT:Hid (next.take (i+1)=next.take i++[next[i]]):=ht;have az:(next.take i).length=i:=by rw[List.length_take];omega
        have cc:(A++next.take i).length<=2*m.code.length+3:=by rw[List.length_append,az];omega
        have cd:(B++(next.take i).map λ_=>n+more).length<=2*m.code.length+3:=by rw[List.length_append,List.length_map,az];have:=ab.out;omega
        have be:=c.size;generalize next[i]=t at *;have b0:Hid (A++next.take (i+1)=(A++next.take i)++[t]):=by show _=_;rw[HT.out,List.append_assoc]
        have b1:Hid (B++(next.take (i+1)).map (λ_=>n+more)=(B++(next.take i).map λ_=>n+more)++[n+more]):=by show _=_;rw[HT.out,List.map_append,List.append_assoc];rfl
        generalize A++next.take i=A1 at *;generalize (B++(next.take i).map λ_=>n+more)=B1 at *;clear hv ht az au;have ay:=c.two;have b8:∀ {W W':qW} {g:Nat},(g<w5.heap.size\/w6.heap.size<=g)->w6.heap.size<=W.heap.size->(∀b,b<W.heap.size->b≠g->W'.heap[b]?=W.heap[b]?)->Keeps (λb=>w5.heap.size<=b/\b<w6.heap.size) W W':=λhg cl h=>Keeps.of_block λb hb hl=>h b hl Zo
        go_wp2_with (first
         | (at_builtin;refine wpList_append_lies _ rfl (.tmp 116) (.tmp 118) 47 rfl (w.heap.size+3) 3 i0 _ 1 8 Tryz.underlying47 hi U V X rfl (by decide) (qG gA A1.length kA) A1.length (NG A1) rfl (ay.a.alloc _) (O _ 0) 1 1 [J t] rfl rfl (λj u hu=>(by rw[Addr.add_lit,Nat.zero_add];exact (Bp wr _ 3 _ rfl j).trans (by simpa using hu))) (by intro u hu;simp at hu;subst hu;rfl) Zo (by unfold maxLen;omega) Zo (by simp;omega) _ rfl ?_;intro g2 c2 w2 C r y a0;have al:=ay.first C r y be;have cm:=al.2.size)
         | (at_builtin;refine wpList_append_lies _ rfl (.tmp 120) (.tmp 124) 47 rfl (w.heap.size+3) 3 i0 _ 1 8 Tryz.underlying47 hi U V X rfl (by decide) (qG gB B1.length kB) B1.length (NG B1) rfl (al.1.b.alloc _) (O _ 0) 1 1 [J (n+more)] rfl rfl (λj u hu=>(by rw[Addr.add_lit,Nat.zero_add];exact (Bp w2 _ 3 _ rfl j).trans (by simpa using hu))) (by intro u hu;simp at hu;subst hu;rfl) Zo (by unfold maxLen;omega) Zo (by simp;omega) _ rfl ?_;intro g3 c3 w3 D s z a1;have ar:=al.1.swap.first D s z Zo))
        have cn:=ar.2.size;have cf:=ay.ne;simp[Value.ownBlock] at y z;have bg:Keeps (λb=>w5.heap.size<=b/\b<w6.heap.size) wr w2:=b8 L T λb hb bj=>(r.block b (by simp;omega) (by simp[Value.ownBlock];omega)).trans ((Bg _ _).block b hb);have bh:Keeps (λb=>w5.heap.size<=b/\b<w6.heap.size) w2 w3:=b8 M Zo λb hb bj=>(s.block b (by simp;omega) (by simp[Value.ownBlock];omega)).trans ((Bg _ _).block b hb);have bq:=c.len;go_roundg (gk-1)
        case measure=>omega
        case rel=>
         refine⟨i+1,g2,c2,g3,c3,by omega,by go_num,by rw[b0.out];simp,by rw[b1.out];simp,?_,(H.trans bg).trans bh,by omega,by omega,by omega⟩;rw[b0.out,b1.out];exact⟨ar.1.swap,((al.2.trans ar.2).block _ Zo).trans c.row,c.bel.trans ((al.2.trans ar.2).mono Zo),by omega,by simp;exact bq⟩
       obtain rfl:i=next.length:=by omega
       have bn:(next.length:Int)<=(next.length:Int):=by omega
       rw[List.take_length] at c;simp only[List.take_length];go_wp2;go_roundg go
       case measure=>omega
       case rel=>exact⟨gA,kA,gB,kB,A++next,B++next.map λ_=>n+more,h.set q n,k+1,by simp,by simp,by go_num,by omega,by simp;omega,by rw[N];exact K3.out,K1.out,by rw[N];exact K2.out,c⟩
   have b7:k=A.length:=by omega
   have HE:Hid (DN m.code=(h,(0,0))):=by
    show _=_;rw[← hR,List.drop_eq_nil_of_le (by have:=ab.out;simp;omega)]
    cases gk<;>rfl
   clear hR hI hL;have bp:(A.length:Int)<=(k:Int):=by omega
   have ag:qY w wr:=b5.trans (hS.bel.mono Zo);have rq:wr.heap[w.heap.size+1]?=some (qC #[J 0,J 0] 90 (0,0)):=(hS.bel.block _ Zo).trans rb;obtain⟨rc,rf⟩:(∀q,wr.cell? (O (w.heap.size+1) q)=(#[J 0,J 0]:Array Value)[q]?)/\(∀o,wr.frozen? (O (w.heap.size+1) o)=false):=⟨λq=>by rw[Bn rq],λo=>by unfold World.frozen?;simp[rq]⟩
   clear b7;go_wp2;refine Bt (v:=.tuple #[qS (some (O (w.heap.size+1+1) 0)) m.code.length m.code.length,FV (0,0)]) ?_ rfl ⟨?_,Or.inl ⟨by rw[HE.out],_,rfl,?_,by omega⟩⟩
   ·simp[results,Tryz.results63,go_sem,rc,rf]
   ·exact ((ag.setCell (by simp) _).setCell (by simp) _)
   rw[BS Zo,BS Zo,HE.out];exact hS.row
end Go.Proofs.YtbafokihegegiaaGreatDoor
