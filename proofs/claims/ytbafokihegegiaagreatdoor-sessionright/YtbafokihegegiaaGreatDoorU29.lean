import Derived.Test.YtbafokihegegiaaGreatDoorU28
namespace Go.Proofs.YtbafokihegegiaaGreatDoor
open ChangeShapes WideShapes ChangeAt RowKit
set_option linter.unusedSimpArgs false
set_option linter.unusedVariables false
set_option maxHeartbeats 8000000
set_option maxRecDepth 8000
section
variable {P:Nat->Prop} {w:World} {f:Nat->Option Value}
theorem IsRow.inn {α:Type}{E:CT α}{sz bytes:Nat}{v:Value}{xs:List α}(G:Good E sz)(k:∀f x,E P w f x->E (λb=>P b/\b<w.heap.size) w f x)(h:IsRow E sz bytes P w v xs):IsRow E sz bytes (λb=>P b/\b<w.heap.size) w v xs:=by
 obtain⟨ad,cap,a,e,l,c,d⟩:=h;refine⟨ad,cap,a,e,l,c,λi x j=>?_⟩;obtain⟨b,o,e1,e2,e3⟩:=d i x j;obtain⟨u,g,-⟩:=G.there e3 0 G.pos;exact⟨b,o,e1,⟨e2,World.block_lt_of_cell? w _ g⟩,k _ _ e3⟩
theorem innM {x:QM}(h:Fk P w f x):Fk (λb=>P b/\b<w.heap.size) w f x:=by
 obtain⟨d,a,i,j,c,v,g,e⟩:=h;exact⟨d,a,i,j,c,v,g,e.inn BR λ_ _ h=>h⟩
theorem xxU {x:QO}(h:LG P w f x):LG (λb=>P b/\b<w.heap.size) w f x:=by
 obtain⟨a,v,c,d⟩:=h;exact⟨a,v,c,d.inn BZ λ_ _ h=>h⟩
theorem xxV {x:QC}(h:Kd P w f x):Kd (λb=>P b/\b<w.heap.size) w f x:=by
 obtain⟨d,a,i,c,v,g,e⟩:=h;exact⟨d,a,i,c,v,g,e.inn xbj λ_ _=>innM⟩
theorem innT {x:QT}(h:Mh P w f x):Mh (λb=>P b/\b<w.heap.size) w f x:=by
 obtain⟨c,a,g,v,d,e⟩:=h;exact⟨c,a,g,v,d,e.inn Db λ_ _ h=>h⟩
theorem innE {x:QE}(h:Ln P w f x):Ln (λb=>P b/\b<w.heap.size) w f x:=by
 obtain⟨d,a,i,j,c,v,g,e⟩:=h;exact⟨d,a,i,j,c,v,g,e.inn Db λ_ _ h=>h⟩
end
def KK (P:Nat->Prop)(w:qW)(sb:Nat)(s':Sn)(r:ReE)(e:Ending)(w':qW):Prop:=
 e=.returned (Ej r)/\(∃cv hv lv tv sv,w'.heap[sb]?=some (DR cv hv s'.X.ez lv tv sv)/\SesAt (λb=>P b\/w.heap.size<=b) w' cv hv lv tv s'/\SvAt (λb=>P b\/w.heap.size<=b) w' sv s'.saved)/\Kp (λt=>t=3) (Gd sb) w w'
theorem ArPost.st {P:Nat->Prop}{w w':qW}{sb:Nat}{sv:Value}{s':Sn}{r:ReE}{e:Ending}(h:ArPost P w sb sv s' r e w')(hv:SvAt P w sv s'.saved)(d:∀b,P b->b≠sb):KK P w sb s' r e w':=by
 obtain⟨i,⟨cv,f,lv,tv,j,k⟩,c⟩:=h;exact⟨i,⟨cv,f,lv,tv,sv,j,k,hv.keep (Keeps.of_block λb a g=>c.blk b g (by rw[Eb (d b a)];omega)) λb a=>.inl a⟩,c⟩
theorem SesAt.sv {P:Nat->Prop}{w:qW}{cv hv lv tv:Value}{s:Sn}(h:SesAt P w cv hv lv tv s)(L:List UInt8):SesAt P w cv hv lv tv ⟨s.X,s.cells,s.ts,L⟩:=⟨h.c,h.h,h.l,h.t⟩
theorem setV {w:qW}{sb:Nat}{cv hv:Value}{ep:Int}{lv tv sv:Value}(h:w.heap[sb]?=some (DR cv hv ep lv tv sv))(u:Value):(w.setCell (O sb 5) u).heap[sb]?=some (DR cv hv ep lv tv u)/\Chg sb w (w.setCell (O sb 5) u):=
 ⟨by rw[BW h _];rfl,(Chg.refl _ _).set _ _⟩
theorem xwl {P:Nat->Prop}{w wc Y F:qW}{sb rb:Nat}{cv hv lv tv sv:Value}{s':Sn}{r:ReE}{e:Ending}(j:∀b,P b->b≠sb/\b<w.heap.size)(k:qY w wc)(o:Chg sb wc Y)(f:Chg rb Y F)(p:w.heap.size<=rb)(q:sb<w.heap.size)(n:Y.heap[sb]?=some (DR cv hv s'.X.ez lv tv sv))
  (l:SesAt (λb=>P b\/rb<b) wc cv hv lv tv s') (c:SvAt (λb=>P b\/rb<b) wc sv s'.saved) (m:e=.returned (Ej r)):KK P w sb s' r e F:=by
 have g:=NK k o (Br _ Y) f p
 have i:Keeps (λb=>P b\/rb<b) wc F:=g.keeps _ λb d=>by
  rcases d with d | d
  ·obtain⟨a,b⟩:=j b d;exact⟨a,by omega⟩
  exact⟨by omega,by omega⟩
 exact⟨m,⟨cv,hv,lv,tv,sv,f.held n (by omega),l.keep i λb d=>d.imp id λh=>by omega,c.keep i λb d=>d.imp id λh=>by omega⟩,g.kp⟩
theorem xwW {P:Nat->Prop}(s:Sn)(y:BM s.X=0)(cv hv lv tv sv:Value)(w:qW)(sb:Nat)(k:w.heap[sb]?=some (DR cv hv s.X.ez lv tv sv))(o:SesAt P w cv hv lv tv s)(B:∀b,P b->b≠sb/\b<w.heap.size)(D:Vars w) :
  Calls Tryz.prog 58 #[qP sb] w λe w'=>KK P w sb ⟨s.X,s.cells,s.ts,Ef s.X⟩ (Ct 0 (Ef s.X).length) e w':=by
 have i:=Bg w (qR);have z:=By k;have F:=xvU y;have p:=xwv s.X cv hv (w.alloc (qR)) (o.c.later Bw i) (o.h.later BB i) y (D.later i).tab;have m:(w.alloc (qR)).heap[w.heap.size]?=some (qR):=BH _ _;have K:w.heap.size+1<=(w.alloc (qR)).heap.size:=by simp
 obtain⟨ac,cc,rfl,-⟩:=id o.c;obtain⟨ah,ch,rfl,-⟩:=id o.h;replace k:=Bs k i;have t:=o.keep (Keeps.of_below i) λ_ h=>h;clear o;go_enter Tryz.func58,Tryz.ntmps58;go_upto_region 1 with (fail);generalize (w.alloc (qR))=W at *;obtain⟨s0,s1,s2,s3,s4,s5⟩:=Fc k;go_wp2_with fail;refine p.mono ?_;rintro e Z ⟨v,rfl,⟨ad,cap,rfl,d⟩,a⟩;have u:=Bh i a;have j:=Bs k a;have l:=Bs m a;have q:=t.keep (Keeps.of_below a) λ_ h=>h;have hv:=xuV d (by omega);clear s0 s1 s2 s3 s4 s5 k m t p D y d;obtain⟨s0,s1,s2,s3,s4,s5⟩:=Fc j;have sf:=BN j;obtain⟨rf,r0,r1,r2,r3⟩:=Ec l;obtain⟨C,f⟩:=setV j (qS ad (Ef s.X).length cap);have n:=f.held l (by omega);obtain⟨L,g⟩:=Fz n (J 0) (J (Ef s.X).length) (J 0) (J 0);have H:=hid (xwl (s':=⟨s.X,s.cells,s.ts,Ef s.X⟩) (r:=Ct 0 (Ef s.X).length) B u f g (Bq _) z C ((q.sv _).keep (Keeps.refl _ _) λb h=>Or.inl h) (hv.keep (Keeps.refl _ _) λb h=>Or.inr (by omega)) rfl);have G:sb≠w.heap.size:=by omega
 clear j l q hv C f n L g a u i B;go_wp2;refine Bt (v:=Ej (Ct 0 (Ef s.X).length)) ?_ rfl H.out;simp[results,Tryz.results58,go_sem,Ct,BC,r0,r1,r2,r3]
def LZ (s:Sn):Sn × ReE:=if s.saved=[] then (s,Ct 6 0) else if (Ez s.saved).2≠0 then (s,Ct (Ez s.saved).2 0) else (⟨⟨(Ez s.saved).1.cz,(Ez s.saved).1.heap,max (Ez s.saved).1.ez s.X.ez+1⟩,s.cells,s.ts,s.saved⟩,Ct 0 0)
theorem xwY {P:Nat->Prop}{i:Nat}(s:Sn)(hI:SInv i s)(hi:i<1000)(cv hv lv tv sv:Value)(w:qW)(sb:Nat)(k:w.heap[sb]?=some (DR cv hv s.X.ez lv tv sv))(hS:SesAt P w cv hv lv tv s)(j:SvAt P w sv s.saved)(hP:∀b,P b->b≠sb/\b<w.heap.size)(hV:Vars w) :
  Calls Tryz.prog 59 #[qP sb] w λe w'=>KK P w sb (LZ s).1 (LZ s).2 e w':=by
 have K:=Bg w (qR);have aa:=By k;have N:(w.alloc (qR)).heap[w.heap.size]?=some (qR):=BH _ _;have ao:w.heap.size+1<=(w.alloc (qR)).heap.size:=by simp
 obtain⟨ac,cc,rfl,-⟩:=id hS.c;obtain⟨ah,ch,rfl,-⟩:=id hS.h;obtain⟨av,p,rfl⟩:=j.get;have aj:sb≠w.heap.size:=by omega
 have F:=Bs k K;have a0:=hS.keep (Keeps.of_below K) λ_ h=>h;have M:=j.keep (Keeps.of_below K) λ_ h=>h;have a3:=hV.later K;clear hS j k hV;by_cases h0:s.saved=[]
 ·have hR:LZ s=(s,Ct 6 0):=by unfold LZ;rw[if_pos h0]
  rw[hR];have hl:s.saved.length=0:=by rw[h0];rfl
  obtain⟨s0,s1,s2,s3,s4,s5⟩:=Fc F;rw[hl] at s5;go_enter Tryz.func59,Tryz.ntmps59;go_upto_region 1 with (fail);generalize (w.alloc (qR))=W at *;go_wp2_with fail;refine (NW 6 W).mono ?_;rintro e Z ⟨rfl,a⟩;have C:=Bs N a;have D:=Bs F a;obtain⟨rf,r0,r1,r2,r3⟩:=Ec C;obtain⟨hF,f⟩:=Fz C (J 6) (J 0) (J 0) (J 0);have HF:=hid (xwl (s':=s) (r:=Ct 6 0) hP (Bh K a) (Chg.refl _ _) f (Bq _) aa D ((a0.keep (Keeps.of_below a) λ_ h=>h).keep (Keeps.refl _ _) λb h=>Or.inl h) ((M.keep (Keeps.of_below a) λ_ h=>h).keep (Keeps.refl _ _) λb h=>Or.inl h) rfl);clear s0 s1 s2 s3 s4 s5 F N a0 M a3 D C hF f a K;go_wp2;refine Bt (v:=Ej (Ct 6 0)) ?_ rfl HF.out;simp[results,Tryz.results59,go_sem,Ct,BC,r0,r1,r2,r3]
 obtain⟨Y,u,o,m,z,q⟩:=hI.parse h0;clear o;have e0:=hI.ep0;have e1:=hI.ep1;have hR:LZ s=(⟨⟨Y.cz,Y.heap,max Y.ez s.X.ez+1⟩,s.cells,s.ts,s.saved⟩,Ct 0 0):=by unfold LZ;rw[if_neg h0,m];simp
 rw[hR];have ag:0<s.saved.length:=List.length_pos_iff.2 h0;have a4:=xww s.saved _ _ M.bytes a3;rw[m] at a4;have al:(max Y.ez s.X.ez+1)<=2000:=by omega
 have an:0<=(max Y.ez s.X.ez+1):=by omega
 obtain⟨s0,s1,s2,s3,s4,s5⟩:=Fc F;go_enter Tryz.func59,Tryz.ntmps59;go_upto_region 1 with (fail);generalize (w.alloc (qR))=W at *;have af:¬ ((s.saved.length:Int)=0):=by omega
 go_wp2_with fail;refine a4.mono ?_;rintro e Z ⟨y,B,rfl,hC,hH,a⟩;obtain⟨ad,k1,rfl,-⟩:=id hC;obtain⟨d,k2,rfl,-⟩:=id hH;have C:=Bs N a;have D:=Bs F a;have T:=a0.keep (Keeps.of_below a) λ_ h=>h;have S:=M.keep (Keeps.of_below a) λ_ h=>h;have R:=Bh K a;have ai:=a.size;have L:=Bg Z (qA ad k1 d k2 Y);have a5:(Z.alloc (qA ad k1 d k2 Y)).heap[Z.heap.size]?=some (qA ad k1 d k2 Y):=BH _ _;have ae:Z.heap.size<(Z.alloc (qA ad k1 d k2 Y)).heap.size:=by simp
 replace hC:=(hC.inn Bw λ_ _=>xxV).keep (Q:=λb=>w.heap.size<b/\b<Z.heap.size) Bw (Keeps.of_below L) λb h=>⟨by have:=h.1;omega,h.2⟩
 replace hH:=(hH.inn BB λ_ _=>xxU).keep (Q:=λb=>w.heap.size<b/\b<Z.heap.size) BB (Keeps.of_below L) λb h=>⟨by have:=h.1;omega,h.2⟩
 replace T:=T.keep (Keeps.of_below L) λ_ h=>h;replace S:=S.keep (Keeps.of_below L) λ_ h=>h;replace C:=Bs C L;replace D:=Bs D L;replace R:=Bh R L;go_upto_region 4 with (fail);clear L a K F N a0 M a3 a4 s0 s1 s2 s3 s4 s5;generalize (Z.alloc (qA ad k1 d k2 Y))=V at *;generalize Z.heap.size=wb at *;obtain⟨sf,s0,s1,s2,s3,s4,s5⟩:=EH D;obtain⟨wf,w0,w1,w2⟩:=Kk a5
 have ap:IntKind.i64.wrap (max Y.ez s.X.ez+1)=max Y.ez s.X.ez+1:=by
  rw[IntKind.wrap_i64];omega
 go_upto_region 6 with (fail)
 go_region_with (fail)
 all_goals
  have H:Chg wb V (V.setCell (O wb 2) (J (max Y.ez s.X.ez+1))):=(Chg.refl _ _).set _ _;have a1:(V.setCell (O wb 2) (J (max Y.ez s.X.ez+1))).heap[wb]?=some (qC #[qS ad Y.cz.length k1,qS d Y.heap.length k2,J (max Y.ez s.X.ez+1)] 26 (0,0)):=by rw[BW a5 _];rfl
  have G:=(Br (V.setCell (O wb 2) (J (max Y.ez s.X.ez+1))).heap.size (V.setCell (O wb 2) (J (max Y.ez s.X.ez+1)))).drew;have am:=By D;have ak:=By C;have x1:=Bs (H.held D Zo) G;have x2:=Bs (H.held C Zo) G;have x3:=Bs a1 G;have a7:=(R.trans (H.below (n:=w.heap.size) Zo)).trans (G.mono (by have:=H.size;omega));have a8:=(hC.keep (Q:=λb=>w.heap.size<b) Bw (H.keeps Zo) λb h=>h.1).later Bw G;have ab:=(hH.keep (Q:=λb=>w.heap.size<b) BB (H.keeps Zo) λb h=>h.1).later BB G;have a6:=(T.keep (H.keeps λh=>by have:=(hP _ h).2;omega) λ_ h=>h).keep (Keeps.of_below G) λ_ h=>h;have a9:=(S.keep (H.keeps λh=>by have:=(hP _ h).2;omega) λ_ h=>h).keep (Keeps.of_below G) λ_ h=>h;clear sf s0 s1 s2 s3 s4 s5 wf w0 w1 w2 H a1 G D C a5 hC hH T S R ae;generalize (V.setCell (O wb 2) (J (max Y.ez s.X.ez+1))).drew=U at *;obtain⟨sf,s0,s1,s2,s3,s4,s5⟩:=EH x1;obtain⟨rf,r0,r1,r2,r3⟩:=Ec x2;obtain⟨-,w0,w1,w2⟩:=Kk x3;obtain⟨hY,g⟩:=PP x1 (qS ad Y.cz.length k1) (qS d Y.heap.length k2) (max Y.ez s.X.ez+1);have a2:=g.held x2 Zo
  obtain⟨hF,f⟩:=Fz a2 (J 0) (J 0) (J 0) (J 0);have HF:=hid (xwl (s':=⟨⟨Y.cz,Y.heap,max Y.ez s.X.ez+1⟩,s.cells,s.ts,s.saved⟩) (r:=Ct 0 0) hP a7 g f (Bq _) aa hY ⟨a8.mono Bw λb h=>Or.inr h,ab.mono BB λb h=>Or.inr h,a6.l.mono Dc λb h=>Or.inl h,a6.t.mono xbD λb h=>Or.inl h⟩ (a9.keep (Keeps.refl _ _) λb h=>Or.inl h) rfl);clear hY g a2 hF f a8 ab a6 a9 a7 x1 x2 x3 hP;go_wp2;refine Bt (v:=Ej (Ct 0 0)) ?_ rfl HF.out;simp[results,Tryz.results59,go_sem,Ct,BC,r0,r1,r2,r3]
theorem xxx {P:Nat->Prop}{w w':qW}{sb:Nat}{cv hv lv tv sv:Value}{s:Sn}{r:ReE}{e:Ending}(a:w.heap[sb]?=some (DR cv hv s.X.ez lv tv sv))(g:SesAt P w cv hv lv tv s)(c:SvAt P w sv s.saved)(f:e=.returned (Ej r))(d:qY w w'):KK P w sb s r e w':=
 ⟨f,⟨cv,hv,lv,tv,sv,Bs a d,g.keep (Keeps.of_below d) λ_ h=>.inl h,c.keep (Keeps.of_below d) λ_ h=>.inl h⟩,d.os,d.tape,d.output,d.size,λb h _=>d.block b h⟩
theorem xxt {P:Nat->Prop}{w W Z F:qW}{sb rb:Nat}{s:Sn}{r:ReE}{e:Ending}(g:qY w W)(p:KK P W sb s r e Z)(f:Chg rb Z F)(u:w.heap.size<=rb)(d:rb<W.heap.size)(q:sb<w.heap.size)(a:∀b,P b->b<w.heap.size):KK P w sb s r e F:=by
 obtain⟨n,⟨cv,hv,lv,tv,sv,l,m,c⟩,i⟩:=p;have t:=g.size
 have j:Keeps (λb=>P b\/W.heap.size<=b) Z F:=f.keeps λh=>by
  rcases h with h | h
  ·have:=a _ h;omega
  omega
 have k:∀b,P b\/W.heap.size<=b->P b\/w.heap.size<=b:=λb h=>h.imp id λh=>by omega
 refine⟨n,⟨cv,hv,lv,tv,sv,f.held l (by omega),m.keep j k,c.keep j k⟩,f.os.trans (i.os.trans g.os),f.tape.trans (i.tape.trans g.tape),f.output.trans (i.output.trans g.output),?_,λb l o=>?_⟩
 ·have:=f.size;have:=i.size;omega
 rw[f.blk b (by omega),i.blk b (by omega) o,g.block b l]
theorem xwM {P Q:Nat->Prop}{i:Nat}(s:Sn)(H:SInv i s)(hi:i<1000)(hf:Hg s 400)(x:StE)(hN:NamesOk x)(cv hv lv tv sv mv av:Value)(w:qW)(sb:Nat)(l:w.heap[sb]?=some (DR cv hv s.X.ez lv tv sv))(G:SesAt P w cv hv lv tv s)(m:SvAt P w sv s.saved)(D:∀b,P b->b≠sb)(o:∀b,P b->b<w.heap.size)(V:VarsB w.heap.size w)(N:Cm Q w mv x.meth.code)(K:CG Q w av x.args):Calls Tryz.prog 37 #[qP sb,StV x mv av] w λe w'=>KK P w sb (Cg s x).1 (Cg s x).2 e w':=by
 obtain⟨f,j,g,name,a,sf,c,d⟩:=x;obtain⟨n0,n1,n2⟩:=hN;simp only at n0 n1 n2 N K;have A1:Hid (∃R,Cg s ⟨1,j,g,name,a,sf,c,d⟩=R/\∀w':qW,qY w w'->Calls Tryz.prog 52 #[qP sb,StV ⟨1,j,g,name,a,sf,c,d⟩ mv av] w' λe w''=>ArPost P w' sb sv R.1 R.2 e w''):=⟨LD s ⟨1,j,g,name,a,sf,c,d⟩,by unfold Cg LD;rw[if_pos rfl],λw' u=>xiK s (PY H.right) ⟨1,j,g,name,a,sf,c,d⟩ cv hv lv tv sv mv av w' sb (Bs l u) (G.keep (Keeps.of_below u) λ_ h=>h) D (N.later BR u) (K.later BZ u) n0⟩
 have A2:Hid (∃R,Cg s ⟨2,j,g,name,a,sf,c,d⟩=R/\∀w':qW,qY w w'->Calls Tryz.prog 53 #[qP sb,J j,MV a mv] w' λe w''=>ArPost P w' sb sv R.1 R.2 e w''):=⟨Kn s j a,xqE s ⟨2,j,g,name,a,sf,c,d⟩ rfl,λw' u=>xkX s j a cv hv lv tv sv mv w' sb (Bs l u) (G.keep (Keeps.of_below u) λ_ h=>h) D (N.later BR u) n1⟩
 have A3:Hid (∃R,Cg s ⟨3,j,g,name,a,sf,c,d⟩=R/\∀w':qW,qY w w'->Calls Tryz.prog 54 #[qP sb,J j] w' λe w''=>ArPost P w' sb sv R.1 R.2 e w''):=⟨KS s j,by unfold Cg KS;rw[if_neg (by simp),if_neg (by simp),if_pos rfl],λw' u=>xhy s H.right j cv hv lv tv sv w' sb (Bs l u) (G.keep (Keeps.of_below u) λ_ h=>h) D⟩
 have A4:Hid (∃R,Cg s ⟨4,j,g,name,a,sf,c,d⟩=R/\∀w':qW,qY w w'->Calls Tryz.prog 55 #[qP sb,EL sf c av] w' λe w''=>ArPost P w' sb sv R.1 R.2 e w''):=⟨(⟨⟨s.X.cz,(Dz s.X sf c d 400).heap,s.X.ez⟩,s.cells,s.ts,s.saved⟩,Es (Dz s.X sf c d 400)),by unfold Cg;rw[if_neg (by simp),if_neg (by simp),if_neg (by simp),if_pos (by simp)],λw' u=>xke s H.right sf c d cv hv lv tv sv av w' sb (Bs l u) (G.keep (Keeps.of_below u) λ_ h=>h) D (K.later BZ u) n2⟩
 have A5:Hid (∃R,Cg s ⟨5,j,g,name,a,sf,c,d⟩=R/\∀w':qW,qY w w'->Calls Tryz.prog 56 #[qP sb,EL sf c av] w' λe w''=>ArPost P w' sb sv R.1 R.2 e w''):=⟨(⟨⟨s.X.cz,(DQ (Ds s.X 400) s.X ⟨s.cells,s.ts,0,0⟩ sf c d 400).1.heap,s.X.ez⟩,(DQ (Ds s.X 400) s.X ⟨s.cells,s.ts,0,0⟩ sf c d 400).2.cells,(DQ (Ds s.X 400) s.X ⟨s.cells,s.ts,0,0⟩ sf c d 400).2.ts,s.saved⟩,Es (DQ (Ds s.X 400) s.X ⟨s.cells,s.ts,0,0⟩ sf c d 400).1),by unfold Cg;rw[if_neg (by simp),if_neg (by simp),if_neg (by simp),if_neg (by simp),if_pos rfl],λw' u=>xip s H.right sf c d cv hv lv tv sv av w' sb (Bs l u) (G.keep (Keeps.of_below u) λ_ h=>h) D (K.later BZ u) n2 hf⟩
 have A6:Hid (∃R,Cg s ⟨6,j,g,name,a,sf,c,d⟩=R/\∀w':qW,qY w w'->Calls Tryz.prog 57 #[qP sb,EL sf c av] w' λe w''=>ArPost P w' sb sv R.1 R.2 e w''):=⟨(⟨⟨s.X.cz,(xyz s sf c d).heap,s.X.ez⟩,s.cells,s.ts,s.saved⟩,Es (xyz s sf c d)),by unfold Cg;rw[if_neg (by simp),if_neg (by simp),if_neg (by simp),if_neg (by simp),if_neg (by simp),if_pos rfl],λw' u=>xkL s H.right sf c d cv hv lv tv sv av w' sb (Bs l u) (G.keep (Keeps.of_below u) λ_ h=>h) D (K.later BZ u) n2⟩
 have A7:Hid (∃R,Cg s ⟨7,j,g,name,a,sf,c,d⟩=R/\∀w':qW,qY w w'->Calls Tryz.prog 58 #[qP sb] w' λe w''=>KK P w' sb R.1 R.2 e w''):=⟨(⟨s.X,s.cells,s.ts,Ef s.X⟩,Ct 0 (Ef s.X).length),by unfold Cg;simp,λw' u=>xwW s H.right cv hv lv tv sv w' sb (Bs l u) (G.keep (Keeps.of_below u) λ_ h=>h) (λb h=>⟨D b h,by have:=o b h;have:=u.size;omega⟩) (V w' u)⟩
 have A8:Hid (∃R,Cg s ⟨8,j,g,name,a,sf,c,d⟩=R/\∀w':qW,qY w w'->Calls Tryz.prog 59 #[qP sb] w' λe w''=>KK P w' sb R.1 R.2 e w''):=⟨LZ s,by unfold Cg LZ;simp,λw' u=>xwY s H hi cv hv lv tv sv w' sb (Bs l u) (G.keep (Keeps.of_below u) λ_ h=>h) (m.keep (Keeps.of_below u) λ_ h=>h) (λb h=>⟨D b h,by have:=o b h;have:=u.size;omega⟩) (V w' u)⟩
 have A0:Hid (¬ (1<=f/\f<=8)->∃R,Cg s ⟨f,j,g,name,a,sf,c,d⟩=R/\∀w':qW,qY w w'->Calls Tryz.prog 60 #[J 1] w' λe w''=>KK P w' sb R.1 R.2 e w''):=λhk=>⟨(s,Ct 1 0),by unfold Cg;rw[if_neg (by simp only;omega),if_neg (by simp only;omega),if_neg (by simp only;omega),if_neg (by simp only;omega),if_neg (by simp only;omega),if_neg (by simp only;omega),if_neg (by simp only;omega),if_neg (by simp only;omega)],λw' u=>(NW 1 w').mono λe w'' ⟨h1,h2⟩=>xxx (Bs l u) (G.keep (Keeps.of_below u) λ_ h=>h) (m.keep (Keeps.of_below u) λ_ h=>h) h1 h2⟩
 have C:Hid (∀R,f≠7->Cg s ⟨f,j,g,name,a,sf,c,d⟩=R->∀w':qW,qY w w'->SvAt P w' sv R.1.saved):=λR h7 y w' u=>by
  rw[← y,xlE s h7];exact m.keep (Keeps.of_below u) λ_ h=>h
 obtain⟨am,cm,rfl,-⟩:=id N;obtain⟨aa,ca,rfl,-⟩:=id K;have a0:=By l;clear l G m N K hf H n0 n1 n2 V;have L:=BG w (qC #[J f,qZ name,J j,J g,qZ a.name,J a.args,J a.temps,J a.prim,qS am a.code.length cm,J sf.k,J sf.n,qZ c,qS aa d.length ca] 56) (qR);have F:((w.alloc (qC #[J f,qZ name,J j,J g,qZ a.name,J a.args,J a.temps,J a.prim,qS am a.code.length cm,J sf.k,J sf.n,qZ c,qS aa d.length ca] 56)).alloc (qR)).heap[w.heap.size+1]?=some (qR):=Dh _ _ _ (by simp);have M:((w.alloc (qC #[J f,qZ name,J j,J g,qZ a.name,J a.args,J a.temps,J a.prim,qS am a.code.length cm,J sf.k,J sf.n,qZ c,qS aa d.length ca] 56)).alloc (qR)).heap[w.heap.size]?=some (qC #[J f,qZ name,J j,J g,qZ a.name,J a.args,J a.temps,J a.prim,qS am a.code.length cm,J sf.k,J sf.n,qZ c,qS aa d.length ca] 56 (0,0)):=Bs (BH w _) (Bg _ _);have Y:w.heap.size+2<=((w.alloc (qC #[J f,qZ name,J j,J g,qZ a.name,J a.args,J a.temps,J a.prim,qS am a.code.length cm,J sf.k,J sf.n,qZ c,qS aa d.length ca] 56)).alloc (qR)).heap.size:=by simp
 obtain⟨W,S⟩:∃W,(w.alloc (qC #[J f,qZ name,J j,J g,qZ a.name,J a.args,J a.temps,J a.prim,qS am a.code.length cm,J sf.k,J sf.n,qZ c,qS aa d.length ca] 56)).alloc (qR)=W:=⟨_,rfl⟩;rw[S] at L F M Y;replace S:=hid S;have T:f=1\/f=2\/f=3\/f=4\/f=5\/f=6\/f=7\/f=8\/¬ (1<=f/\f<=8):=by omega
 rcases T with rfl | rfl | rfl | rfl | rfl | rfl | rfl | rfl | hk
 all_goals
  first
   | (obtain⟨R,y,z⟩:=A1.out;replace z:=λw' u=>(z w' u).mono λe w'' B=>ArPost.st B (C.out R (by decide) y w' u) D;rw[y])
   | (obtain⟨R,y,z⟩:=A2.out;replace z:=λw' u=>(z w' u).mono λe w'' B=>ArPost.st B (C.out R (by decide) y w' u) D;rw[y])
   | (obtain⟨R,y,z⟩:=A3.out;replace z:=λw' u=>(z w' u).mono λe w'' B=>ArPost.st B (C.out R (by decide) y w' u) D;rw[y])
   | (obtain⟨R,y,z⟩:=A4.out;replace z:=λw' u=>(z w' u).mono λe w'' B=>ArPost.st B (C.out R (by decide) y w' u) D;rw[y])
   | (obtain⟨R,y,z⟩:=A5.out;replace z:=λw' u=>(z w' u).mono λe w'' B=>ArPost.st B (C.out R (by decide) y w' u) D;rw[y])
   | (obtain⟨R,y,z⟩:=A6.out;replace z:=λw' u=>(z w' u).mono λe w'' B=>ArPost.st B (C.out R (by decide) y w' u) D;rw[y])
   | (obtain⟨R,y,z⟩:=A7.out;rw[y])
   | (obtain⟨R,y,z⟩:=A8.out;rw[y])
   | (
     obtain⟨R,y,z⟩:=A0.out hk;rw[y];have k1:¬ f=1:=by omega
     have k2:¬ f=2:=by omega
     have k3:¬ f=3:=by omega
     have k4:¬ f=4:=by omega
     have k5:¬ f=5:=by omega
     have k6:¬ f=6:=by omega
     have k7:¬ f=7:=by omega
     have k8:¬ f=8:=by omega)
  clear A1 A2 A3 A4 A5 A6 A7 A8 A0 y C;obtain⟨p0,p1,p2,p3,p4,p5,p6,p7,p8,p9,q,r,t⟩:=QN M;go_enter Tryz.func37,Tryz.ntmps37;go_upto_region 1 with (fail);rw[S.out];go_wp2_with fail;refine (z W L).mono ?_;rintro e Z B;obtain rfl:=B.1;have U:Z.heap[w.heap.size+1]?=some (qR):=(B.2.2.blk _ (by omega) (by rw[Eb (by omega)];omega)).trans F;obtain⟨rf,r0,r1,r2,r3⟩:=Ec U;obtain⟨hF,p⟩:=Fz U (J R.2.err) (J R.2.n) (J R.2.v.k) (J R.2.v.n);have HF:=hid (xxt L B p (Nat.le_succ _) (by omega) a0 o);clear B F M p0 p1 p2 p3 p4 p5 p6 p7 p8 p9 q r t z S;go_wp2;refine Bt (v:=Ej R.2) ?_ rfl HF.out;simp[results,Tryz.results37,go_sem,r0,r1,r2,r3]
theorem xvF {P:Nat->Prop}(s:Sn){n:Nat}(hf:Hg s n)(cv hv lv tv sv:Value)(w:qW)(K:SesAt P w cv hv lv tv s)(m:SvAt P w sv s.saved):Calls Tryz.prog 14 #[Hf cv hv s.X.ez lv tv sv] w λe w'=>∃cv' hv' lv' tv' sv':Value,e=.returned (Hf cv' hv' s.X.ez lv' tv' sv')/\SesAt (λb=>w.heap.size<=b/\b<w'.heap.size) w' cv' hv' lv' tv' s/\SvAt (λb=>w.heap.size<=b/\b<w'.heap.size) w' sv' s.saved/\qY w w':=by
 have V:=λ(w':qW) (u:qY w w')=>xsB s.X cv hv w' (K.c.later Bw u) (K.h.later BB u);have a0:=λ(w':qW) (u:qY w w')=>xsL hf lv w' (K.l.later Dc u);have Y:=λ(w':qW) (u:qY w w')=>xsC hf tv w' (K.t.later xbD u);have Z:=λ(w':qW) (u:qY w w')=>m.keep (Keeps.of_below u) λ_ h=>h;obtain⟨ac,cc,rfl,-⟩:=id K.c;obtain⟨ah,ch,rfl,-⟩:=id K.h;obtain⟨al,kl,rfl,-⟩:=id K.l;obtain⟨at',kt,rfl,-⟩:=id K.t;clear K;have D:=BG w (qF s ac cc ah ch al kl at' kt (sv)) (qM);have R:((w.alloc (qF s ac cc ah ch al kl at' kt (sv))).alloc (qM)).heap[w.heap.size]?=some (qF s ac cc ah ch al kl at' kt (sv))/\((w.alloc (qF s ac cc ah ch al kl at' kt (sv))).alloc (qM)).heap[w.heap.size+1]?=some (qM):=⟨Bs (BH w _) (Bg _ _),Dh _ _ _ (by simp)⟩
 go_enter Tryz.func14,Tryz.ntmps14;go_upto_region 1 with (fail);have a2:w.heap.size+2<=((w.alloc (qF s ac cc ah ch al kl at' kt (sv))).alloc (qM)).heap.size:=by simp
 generalize ((w.alloc (qF s ac cc ah ch al kl at' kt (sv))).alloc (qM))=W at *;have hR:Two w.heap.size (w.heap.size+1) (qF s ac cc ah ch al kl at' kt (sv)) (qM) W:=R;clear R;have z:∀W':qW,qY W W'->FZ w.heap.size (qS ac s.X.cz.length cc) (qS ah s.X.heap.length ch) s.X.ez (qS al s.cells.length kl) (qS at' s.ts.length kt) sv W':=λW' u=>Fc (hR.later u).1;refine Fm (S:=λw'=>FZ w.heap.size (qS ac s.X.cz.length cc) (qS ah s.X.heap.length ch) s.X.ez (qS al s.cells.length kl) (qS at' s.ts.length kt) sv w') [] (by kernel_rfl) ?_;have u:qY W W.drew:=(Br _ W).drew;generalize W.drew=U at *
 repeat' first
  | (
    refine tk 0 (⟨some 3,.fieldAddr 31 (.tmp 1) 0,0,_,_,none⟩) (qP w.heap.size) rfl (z _ u) (λ_ _ _ h=>h) rfl ?_ ?_ ?_
    ·decide +kernel
    ·rintro w⟨_,_,_,_,_,_⟩;go_simp
    try simp only[Act.put,Bj,Bl,Bk])
  | (
    refine tk 1 (⟨some 4,.load 26 (.tmp 3),26,_,_,none⟩) (qV ac cc ah ch s.X) rfl (z _ u) (λ_ _ _ h=>h) rfl ?_ ?_ ?_
    ·decide +kernel
    ·rintro w⟨_,_,_,_,_,_⟩;go_simp
    try simp only[Act.put,Bj,Bl,Bk])
  | (
    refine tk 3 (⟨some 6,.fieldAddr 31 (.tmp 1) 1,0,_,_,none⟩) (.pointer (some (O w.heap.size 3))) rfl (z _ u) (λ_ _ _ h=>h) rfl ?_ ?_ ?_
    ·decide +kernel
    ·rintro w⟨_,_,_,_,_,_⟩;go_simp
    try simp only[Act.put,Bj,Bl,Bk])
  | (
    refine tk 4 (⟨some 7,.load 27 (.tmp 6),27,_,_,none⟩) (qS al s.cells.length kl) rfl (z _ u) (λ_ _ _ h=>h) rfl ?_ ?_ ?_
    ·decide +kernel
    ·rintro w⟨_,_,_,_,_,_⟩;go_simp
    try simp only[Act.put,Bj,Bl,Bk])
  | (
    refine tk 6 (⟨some 9,.fieldAddr 31 (.tmp 1) 2,0,_,_,none⟩) (.pointer (some (O w.heap.size 4))) rfl (z _ u) (λ_ _ _ h=>h) rfl ?_ ?_ ?_
    ·decide +kernel
    ·rintro w⟨_,_,_,_,_,_⟩;go_simp
    try simp only[Act.put,Bj,Bl,Bk])
  | (
    refine tk 7 (⟨some 10,.load 28 (.tmp 9),28,_,_,none⟩) (qS at' s.ts.length kt) rfl (z _ u) (λ_ _ _ h=>h) rfl ?_ ?_ ?_
    ·decide +kernel
    ·rintro w⟨_,_,_,_,_,_⟩;go_simp
    try simp only[Act.put,Bj,Bl,Bk])
  | (
    refine tk 9 (⟨some 12,.fieldAddr 31 (.tmp 1) 3,0,_,_,none⟩) (.pointer (some (O w.heap.size 5))) rfl (z _ u) (λ_ _ _ h=>h) rfl ?_ ?_ ?_
    ·decide +kernel
    ·rintro w⟨_,_,_,_,_,_⟩;go_simp
    try simp only[Act.put,Bj,Bl,Bk])
  | (
    refine tk 10 (⟨some 13,.load 29 (.tmp 12),29,_,_,none⟩) (sv) rfl (z _ u) (λ_ _ _ h=>h) rfl ?_ ?_ ?_
    ·decide +kernel
    ·rintro w⟨_,_,_,_,_,_⟩;go_simp
    try simp only[Act.put,Bj,Bl,Bk])
  | (
    refine tk 12 (⟨some 15,.build 31 #[(0,.tmp 5),(1,.tmp 8),(2,.tmp 11),(3,.tmp 14)],31,_,_,none⟩) (Hf (qG g s.X.cz.length s.X.cz.length) (qG gh s.X.heap.length s.X.heap.length) s.X.ez (qG gl s.cells.length s.cells.length) (qG gt s.ts.length s.ts.length) (qS sa s.saved.length sc)) rfl (z _ u) (λ_ _ _ h=>h) rfl ?_ ?_ ?_
    ·decide +kernel
    ·rintro w⟨_,_,_,_,_,_⟩;go_simp
    try simp only[Act.put,Bj,Bl,Bk])
  | (
    refine CN [2] rfl ?_ ⟨?_,trivial⟩
    ·decide +kernel)
  | (
    refine CN [5] rfl ?_ ⟨?_,trivial⟩
    ·decide +kernel)
  | (
    refine CN [8] rfl ?_ ⟨?_,trivial⟩
    ·decide +kernel)
  | (
    refine CN [11] rfl ?_ ⟨?_,trivial⟩
    ·decide +kernel)
  | (
    refine CN [13] rfl ?_ ⟨?_,trivial⟩
    ·decide +kernel)
  | (
    refine Ck (o:=⟨some 5,.call ⟨.value (.func 32),#[.tmp 4],#[26]⟩,26,_,_,none⟩) rfl (λK' C=>?_);have B:=u.size;have y:=V U (Bh D u);refine EX rfl 32 (.func 32) #[.tmp 4] _ rfl #[] rfl #[qV ac cc ah ch s.X] (by simp[Act.eval,Act.put]) (FN Tryz.func32 (by kernel_rfl) (by kernel_rfl) _ _) ?_;refine (show Calls Tryz.prog 32 #[qV ac cc ah ch s.X] U _ from y.mono ?_);rintro e U ⟨i,g,gh,rfl,H,G⟩;refine⟨_,rfl,?_⟩;replace u:=Bh u i;refine C _ _ (λ_=>?_) ?_
    ·exact z _ u
    clear C K' y
    try simp only[Act.put,Bj,Bl,Bk]
    replace H:=H.mono Bw λb (h:_/\_)=>(⟨BX B h.1,h.2⟩:W.heap.size<=b/\b<U.heap.size)
    replace G:=G.mono BB λb (h:_/\_)=>(⟨BX B h.1,h.2⟩:W.heap.size<=b/\b<U.heap.size)
    clear i B)
  | (
    refine Ck (o:=⟨some 8,.call ⟨.value (.func 33),#[.tmp 7],#[27]⟩,27,_,_,none⟩) rfl (λK' C=>?_);have B:=u.size;have y:=a0 U (Bh D u);refine EX rfl 33 (.func 33) #[.tmp 7] _ rfl #[] rfl #[qS al s.cells.length kl] (by simp[Act.eval,Act.put]) (FN Tryz.func33 (by kernel_rfl) (by kernel_rfl) _ _) ?_;refine (show Calls Tryz.prog 33 #[qS al s.cells.length kl] U _ from y.mono ?_);rintro e U ⟨i,gl,rfl,M⟩;refine⟨_,rfl,?_⟩;replace u:=Bh u i;refine C _ _ (λ_=>?_) ?_
    ·exact z _ u
    clear C K' y
    try simp only[Act.put,Bj,Bl,Bk]
    replace M:=M.mono Dc λb (h:_/\_)=>(⟨BX B h.1,h.2⟩:W.heap.size<=b/\b<U.heap.size)
    replace H:=(H.later Bw i).mono Bw λb (h:_/\_)=>(⟨h.1,Cd h.2 i.size⟩:W.heap.size<=b/\b<U.heap.size)
    replace G:=(G.later BB i).mono BB λb (h:_/\_)=>(⟨h.1,Cd h.2 i.size⟩:W.heap.size<=b/\b<U.heap.size)
    clear i B)
  | (
    refine Ck (o:=⟨some 11,.call ⟨.value (.func 34),#[.tmp 10],#[28]⟩,28,_,_,none⟩) rfl (λK' C=>?_);have B:=u.size;have y:=Y U (Bh D u);refine EX rfl 34 (.func 34) #[.tmp 10] _ rfl #[] rfl #[qS at' s.ts.length kt] (by simp[Act.eval,Act.put]) (FN Tryz.func34 (by kernel_rfl) (by kernel_rfl) _ _) ?_;refine (show Calls Tryz.prog 34 #[qS at' s.ts.length kt] U _ from y.mono ?_);rintro e U ⟨i,gt,rfl,Q⟩;refine⟨_,rfl,?_⟩;replace u:=Bh u i;refine C _ _ (λ_=>?_) ?_
    ·exact z _ u
    clear C K' y
    try simp only[Act.put,Bj,Bl,Bk]
    replace Q:=Q.mono xbD λb (h:_/\_)=>(⟨BX B h.1,h.2⟩:W.heap.size<=b/\b<U.heap.size)
    replace H:=(H.later Bw i).mono Bw λb (h:_/\_)=>(⟨h.1,Cd h.2 i.size⟩:W.heap.size<=b/\b<U.heap.size)
    replace G:=(G.later BB i).mono BB λb (h:_/\_)=>(⟨h.1,Cd h.2 i.size⟩:W.heap.size<=b/\b<U.heap.size)
    replace M:=(M.later Dc i).mono Dc λb (h:_/\_)=>(⟨h.1,Cd h.2 i.size⟩:W.heap.size<=b/\b<U.heap.size)
    clear i B)
  | (
    refine Ck (o:=⟨some 14,.call ⟨.builtin .append,#[.const (qN),.tmp 13],#[29,29]⟩,29,_,_,none⟩) rfl (λK' C=>?_);have B:=u.size;obtain⟨p,U,k,T,i⟩:=xve (Z U (Bh D u));refine xcI rfl (.const (qN)) (.tmp 13) 29 rfl (qN) sv _ (by simp[Act.eval]) (by simp[Act.eval,Act.put]) k ?_;replace u:=Bh u i;refine C _ _ (λ_=>?_) ?_
    ·exact z _ u
    clear C K' k
    try simp only[Act.put,Bj,Bl,Bk]
    replace T:=T.keep (Keeps.refl _ _) λb (h:_/\_)=>(⟨BX B h.1,h.2⟩:W.heap.size<=b/\b<U.heap.size)
    replace H:=(H.later Bw i).mono Bw λb (h:_/\_)=>(⟨h.1,Cd h.2 i.size⟩:W.heap.size<=b/\b<U.heap.size)
    replace G:=(G.later BB i).mono BB λb (h:_/\_)=>(⟨h.1,Cd h.2 i.size⟩:W.heap.size<=b/\b<U.heap.size)
    replace M:=(M.later Dc i).mono Dc λb (h:_/\_)=>(⟨h.1,Cd h.2 i.size⟩:W.heap.size<=b/\b<U.heap.size)
    replace Q:=(Q.later xbD i).mono xbD λb (h:_/\_)=>(⟨h.1,Cd h.2 i.size⟩:W.heap.size<=b/\b<U.heap.size)
    obtain⟨sa,sc,rfl⟩:=T.get;clear i B)
  | (
    refine Ck (o:=⟨none,.store 31 (.tmp 2) (.tmp 15),0,_,_,none⟩) rfl (λK' C=>?_);have N:=(hR.later u).2;have q:=EH N;have rf:=q.1;have r0:=q.2.1;have r1:=q.2.2.1;have r2:=q.2.2.2.1;have r3:=q.2.2.2.2.1;have r4:=q.2.2.2.2.2.1;have r5:=q.2.2.2.2.2.2;obtain⟨r,j⟩:=Mm N (qG g s.X.cz.length s.X.cz.length) (qG gh s.X.heap.length s.X.heap.length) (J s.X.ez) (qG gl s.cells.length s.cells.length) (qG gt s.ts.length s.ts.length) (qS sa s.saved.length sc);go_simp;refine C _ _ (λ_=>?_) ?_
    ·exact Fc (j.held (hR.later u).1 Zo)
    clear C K' q
    try simp only[Act.put,Bj,Bl,Bk])
  | (
    refine EZ ?_ ?_ _
    ·decide +kernel
    try simp only[Act.put,Bj,Bl,Bk]
    obtain⟨F,hF⟩:∃F,((((((U.setCell (O (w.heap.size+1) 0) (qG g s.X.cz.length s.X.cz.length)).setCell (O (w.heap.size+1) 1) (qG gh s.X.heap.length s.X.heap.length)).setCell (O (w.heap.size+1) 2) (J s.X.ez)).setCell (O (w.heap.size+1) 3) (qG gl s.cells.length s.cells.length)).setCell (O (w.heap.size+1) 4) (qG gt s.ts.length s.ts.length)).setCell (O (w.heap.size+1) 5) (qS sa s.saved.length sc))=F:=⟨_,rfl⟩;rw[hF] at j;have a1:=j.size;have L:=hid (show ∃cv' hv' lv' tv' sv':Value,Hf (qG g s.X.cz.length s.X.cz.length) (qG gh s.X.heap.length s.X.heap.length) s.X.ez (qG gl s.cells.length s.cells.length) (qG gt s.ts.length s.ts.length) (qS sa s.saved.length sc)=Hf cv' hv' s.X.ez lv' tv' sv'/\SesAt (λb=>w.heap.size<=b/\b<F.heap.size) F cv' hv' lv' tv' s/\SvAt (λb=>w.heap.size<=b/\b<F.heap.size) F sv' s.saved/\qY w F from ⟨_,_,_,_,_,rfl,⟨H.keep Bw (j.keeps Zo) λb h=>⟨by omega,by omega⟩,G.keep BB (j.keeps Zo) λb h=>⟨by omega,by omega⟩,M.keep Dc (j.keeps Zo) λb h=>⟨by omega,by omega⟩,Q.keep xbD (j.keeps Zo) λb h=>⟨by omega,by omega⟩⟩,T.keep (j.keeps Zo) λb h=>⟨by omega,by omega⟩,(Bh D u).trans (j.below Zo)⟩)
    rw[← hF] at L;clear hF;go_wp2;refine Bt (v:=Hf (qG g s.X.cz.length s.X.cz.length) (qG gh s.X.heap.length s.X.heap.length) s.X.ez (qG gl s.cells.length s.cells.length) (qG gt s.ts.length s.ts.length) (qS sa s.saved.length sc)) ?_ rfl ?_
    ·simp[results,Tryz.results14,go_sem,r0,r1,r2,r3,r4,r5]
    ·obtain⟨a,b,c,d,f,h1,h2⟩:=L.out;exact⟨a,b,c,d,f,by rw[h1],h2⟩)
  | fail
theorem Pb {P Q:Nat->Prop}{i:Nat}(s:Sn)(hI:SInv i s)(hi:i<1000)(hf:Hg s 400)(x:StE)(hN:NamesOk x)(cv hv lv tv sv mv av:Value)(w:qW)(hS:SesAt P w cv hv lv tv s)(u:SvAt P w sv s.saved)(hV:VarsB w.heap.size w)(hM:Cm Q w mv x.meth.code)(hA:CG Q w av x.args) :
  Calls Tryz.prog 19 #[Hf cv hv s.X.ez lv tv sv,StV x mv av] w λe w'=>∃cv' hv' lv' tv' sv':Value,e=.returned (.tuple #[Hf cv' hv' (Cg s x).1.X.ez lv' tv' sv',Ej (Cg s x).2])/\SesAt (λb=>w.heap.size<=b) w' cv' hv' lv' tv' (Cg s x).1/\SvAt (λb=>w.heap.size<=b) w' sv' (Cg s x).1.saved/\qY w w':=by
 have an:=λ(w':qW) (hb:qY w w')=>xvF s hf cv hv lv tv sv w' (hS.keep (Keeps.of_below hb) λ_ h=>h) (u.keep (Keeps.of_below hb) λ_ h=>h);have aw:=λ(w':qW) (hb:qY w w') (P:Nat->Prop) (cv hv lv tv sv:Value) (sb:Nat) (ak:w'.heap[sb]?=some (DR cv hv s.X.ez lv tv sv)) (hS':SesAt P w' cv hv lv tv s) (hSv':SvAt P w' sv s.saved) (hP:∀b,P b->b≠sb) (hPl:∀b,P b->b<w'.heap.size)=>xwM s hI hi hf x hN cv hv lv tv sv mv av w' sb ak hS' hSv' hP hPl ((hV.on hb).mono hb.size) (hM.later BR hb) (hA.later BZ hb);obtain⟨ac,cc,rfl,-⟩:=id hS.c;obtain⟨ah,ch,rfl,-⟩:=id hS.h;obtain⟨al,kl,rfl,-⟩:=id hS.l;obtain⟨at',kt,rfl,-⟩:=id hS.t;obtain⟨am,cm,rfl,-⟩:=id hM;obtain⟨aa,ca,rfl,-⟩:=id hA;generalize Cg s x=R at *;clear hS u hV hM hA hI hf hN hi;have a8:qY w ((((w.alloc (qF s ac cc ah ch al kl at' kt (sv))).alloc (qB x am cm aa ca)).alloc (qM)).alloc (qR)):=Bh (BG _ _ _) (BG _ _ _);have ax:((((w.alloc (qF s ac cc ah ch al kl at' kt (sv))).alloc (qB x am cm aa ca)).alloc (qM)).alloc (qR)).heap[w.heap.size]?=some (qF s ac cc ah ch al kl at' kt (sv)):=Bs (Bs (BH w _) (Bg _ _)) (BG _ _ _)
 have aj:((((w.alloc (qF s ac cc ah ch al kl at' kt (sv))).alloc (qB x am cm aa ca)).alloc (qM)).alloc (qR)).heap[w.heap.size+1]?=some (qB x am cm aa ca):=Bs (Dh _ _ _ (by simp)) (BG _ _ _);have a6:((((w.alloc (qF s ac cc ah ch al kl at' kt (sv))).alloc (qB x am cm aa ca)).alloc (qM)).alloc (qR)).heap[w.heap.size+2]?=some (qM):=Bs (Dh _ _ _ (by simp)) (Bg _ _);have a5:((((w.alloc (qF s ac cc ah ch al kl at' kt (sv))).alloc (qB x am cm aa ca)).alloc (qM)).alloc (qR)).heap[w.heap.size+3]?=some (qR):=Dh _ _ _ (by simp);have az:w.heap.size+4<=((((w.alloc (qF s ac cc ah ch al kl at' kt (sv))).alloc (qB x am cm aa ca)).alloc (qM)).alloc (qR)).heap.size:=by simp
 go_enter Tryz.func19,Tryz.ntmps19;go_upto_region 1 with (fail);generalize (((w.alloc (qF s ac cc ah ch al kl at' kt (sv))).alloc (qB x am cm aa ca)).alloc (qM)).alloc (qR)=W at *;obtain⟨-,e0,e1,e2,e3,e4,e5⟩:=EH ax;go_wp2_with fail;refine (an W a8).mono ?_;rintro e W1 ⟨G,H,L,K,N,rfl,ab,af,j⟩;obtain⟨a1,k1,rfl,-⟩:=id ab.c;obtain⟨a2,k2,rfl,-⟩:=id ab.h;obtain⟨a3,k3,rfl,-⟩:=id ab.l;obtain⟨a4,k4,rfl,-⟩:=id ab.t;obtain⟨p,r,rfl⟩:=af.get;clear e0 e1 e2 e3 e4 e5 ax;have ae:=Bg W1 (qF s a1 k1 a2 k2 a3 k3 a4 k4 (qS p s.saved.length r));have ak:(W1.alloc (qF s a1 k1 a2 k2 a3 k3 a4 k4 (qS p s.saved.length r))).heap[W1.heap.size]?=some (qF s a1 k1 a2 k2 a3 k3 a4 k4 (qS p s.saved.length r)):=BH _ _;have ay:=j.size;have ap:W1.heap.size<(W1.alloc (qF s a1 k1 a2 k2 a3 k3 a4 k4 (qS p s.saved.length r))).heap.size:=by simp
 replace ab:=ab.keep (Keeps.of_below ae) λ_ h=>h;replace af:=af.keep (Keeps.of_below ae) λ_ h=>h;replace aj:=Bs (Bs aj j) ae;replace a6:=Bs (Bs a6 j) ae;replace a5:=Bs (Bs a5 j) ae;replace a8:=Bh (Bh a8 j) ae;go_upto_region 2 with (fail);clear ae j;generalize W1.alloc (qF s a1 k1 a2 k2 a3 k3 a4 k4 (qS p s.saved.length r))=W2 at *;generalize W1.heap.size=sb at *;obtain⟨p0,p1,p2,p3,p4,p5,p6,p7,p8,p9,B,y,z⟩:=QN aj;have ai:=aw W2 a8 _ _ _ _ _ _ sb ak ab af (λb h=>Nat.ne_of_lt h.2) λb h=>Nat.lt_trans h.2 ap;go_wp2_with fail;refine ai.mono ?_;rintro e Z ⟨rfl,⟨V,F,D,M,T,hO,a0,a7⟩,d⟩;obtain⟨b1,j1,rfl,-⟩:=id a0.c;obtain⟨b2,j2,rfl,-⟩:=id a0.h;obtain⟨b3,j3,rfl,-⟩:=id a0.l;obtain⟨b4,j4,rfl,-⟩:=id a0.t;obtain⟨m,g,rfl⟩:=a7.get;clear p0 p1 p2 p3 p4 p5 p6 p7 p8 p9 B y z aj ai aw an ak;have ao:=d.size;have ar:=(d.blk _ Zo (by rw[Eb Zo];omega)).trans a6;have aq:=(d.blk _ Zo (by rw[Eb Zo];omega)).trans a5;have au:qY w Z:=⟨d.os.trans a8.os,d.tape.trans a8.tape,d.output.trans a8.output,by have:=a8.size;omega,λb hb=>(d.blk b (by have:=a8.size;omega) (by rw[Eb Zo];omega)).trans (a8.block b hb)⟩
 have ad:=Bg Z (qT R.2);have a9:(Z.alloc (qT R.2)).heap[Z.heap.size]?=some (qT R.2):=BH _ _;replace hO:=Bs hO ad;replace a6:=Bs ar ad;replace a5:=Bs aq ad;have hb:=Bh au ad;replace a0:=a0.keep (Keeps.of_below ad) λ_ h=>h;replace a7:=a7.keep (Keeps.of_below ad) λ_ h=>h;clear ar aq ab af;go_upto_region 3 with (fail);have f:W2.heap.size<=Z.heap.size:=ao;clear ad d au a8 ao;generalize Z.alloc (qT R.2)=Y at *;generalize Z.heap.size=rp at *;generalize W.heap.size=sl at *;obtain⟨sg,C⟩:∃sg,W2.heap.size=sg:=⟨_,rfl⟩;rw[C] at a0 a7 ap f;refine Fm (S:=λw'=>FZ sb (qS b1 R.1.X.cz.length j1) (qS b2 R.1.X.heap.length j2) R.1.X.ez (qS b3 R.1.cells.length j3) (qS b4 R.1.ts.length j4) (qS m R.1.saved.length g) w'/\w'.cell? (O rp 0)=some (J R.2.err)/\w'.cell? (O rp 1)=some (J R.2.n)/\w'.cell? (O rp 2)=some (J R.2.v.k)/\w'.cell? (O rp 3)=some (J R.2.v.n)) [] (by kernel_rfl) ?_;replace hb:=hb.drew;replace hO:=PV hO;replace a9:=PV a9;replace a6:=PV a6;replace a5:=PV a5;replace a0:=a0.keep (w':=Y.drew) (Keeps.of_below (Br _ Y).drew) λ_ h=>h;replace a7:=a7.keep (w':=Y.drew) (Keeps.of_below (Br _ Y).drew) λ_ h=>h;generalize Y.drew=U at *
 repeat' first
  | (
    refine tk 0 (⟨some 12,.load 31 (.tmp 6),31,_,_,none⟩) (Hf (qS b1 R.1.X.cz.length j1) (qS b2 R.1.X.heap.length j2) R.1.X.ez (qS b3 R.1.cells.length j3) (qS b4 R.1.ts.length j4) (qS m R.1.saved.length g)) rfl ⟨Fc hO,(Ec a9).2⟩ (λ_ _ _ h=>h) rfl ?_ ?_ ?_
    ·decide +kernel
    ·rintro w⟨⟨_,_,_,_,_,_⟩,_,_,_,_⟩;go_simp
    try simp only[Act.put,Bj,Bl,Bk])
  | (
    refine tk 1 (⟨some 13,.load 43 (.tmp 7),43,_,_,none⟩) (Ej R.2) rfl ⟨Fc hO,(Ec a9).2⟩ (λ_ _ _ h=>h) rfl ?_ ?_ ?_
    ·decide +kernel
    ·rintro w⟨⟨_,_,_,_,_,_⟩,_,_,_,_⟩;go_simp
    try simp only[Act.put,Bj,Bl,Bk])
  | (
    refine CN [2] rfl ?_ ⟨?_,trivial⟩
    ·decide +kernel)
  | (
    refine CN [3] rfl ?_ ⟨?_,trivial⟩
    ·decide +kernel)
  | (
    refine Ck (o:=⟨none,.store 31 (.tmp 4) (.tmp 12),0,_,_,none⟩) rfl (λK' hK=>?_);have q:=EH a6;have rf:=q.1;have r0:=q.2.1;have r1:=q.2.2.1;have r2:=q.2.2.2.1;have r3:=q.2.2.2.2.1;have r4:=q.2.2.2.2.2.1;have r5:=q.2.2.2.2.2.2;obtain⟨f,a⟩:=Mm a6 (qS b1 R.1.X.cz.length j1) (qS b2 R.1.X.heap.length j2) (J R.1.X.ez) (qS b3 R.1.cells.length j3) (qS b4 R.1.ts.length j4) (qS m R.1.saved.length g);go_simp;refine hK _ _ (λ_=>?_) ?_
    ·exact⟨Fc (a.held hO Zo),(Ec (a.held a9 Zo)).2⟩
    clear hK K' q rf r0 r1 r2 r3 r4 r5
    try simp only[Act.put,Bj,Bl,Bk]
    replace a6:=f;replace hO:=a.held hO Zo;replace a9:=a.held a9 Zo;replace a0:=a0.keep (a.keeps (by show ¬ (sl<=w.heap.size+2/\w.heap.size+2<sb\/sg<=w.heap.size+2);omega)) λ_ h=>h;replace a7:=a7.keep (a.keeps (by show ¬ (sl<=w.heap.size+2/\w.heap.size+2<sb\/sg<=w.heap.size+2);omega)) λ_ h=>h;replace hb:=hb.trans (a.below Zo);replace a5:=a.held a5 Zo;clear f a;generalize ((((((U.setCell (O (w.heap.size+2) 0) (qS b1 R.1.X.cz.length j1)).setCell (O (w.heap.size+2) 1) (qS b2 R.1.X.heap.length j2)).setCell (O (w.heap.size+2) 2) (J R.1.X.ez)).setCell (O (w.heap.size+2) 3) (qS b3 R.1.cells.length j3)).setCell (O (w.heap.size+2) 4) (qS b4 R.1.ts.length j4)).setCell (O (w.heap.size+2) 5) (qS m R.1.saved.length g))=U at *)
  | (
    refine Ck (o:=⟨none,.store 43 (.tmp 5) (.tmp 13),0,_,_,none⟩) rfl (λK' hK=>?_);have q:=Ec a5;have rf:=q.1;have r0:=q.2.1;have r1:=q.2.2.1;have r2:=q.2.2.2.1;have r3:=q.2.2.2.2;obtain⟨f,a⟩:=Fz a5 (J R.2.err) (J R.2.n) (J R.2.v.k) (J R.2.v.n);go_simp;refine hK _ _ (λ_=>?_) ?_
    ·exact⟨Fc (a.held hO Zo),(Ec (a.held a9 Zo)).2⟩
    clear hK K' q rf r0 r1 r2 r3
    try simp only[Act.put,Bj,Bl,Bk]
    replace a5:=f;replace hO:=a.held hO Zo;replace a9:=a.held a9 Zo;replace a0:=a0.keep (a.keeps (by show ¬ (sl<=w.heap.size+3/\w.heap.size+3<sb\/sg<=w.heap.size+3);omega)) λ_ h=>h;replace a7:=a7.keep (a.keeps (by show ¬ (sl<=w.heap.size+3/\w.heap.size+3<sb\/sg<=w.heap.size+3);omega)) λ_ h=>h;replace hb:=hb.trans (a.below Zo);replace a6:=a.held a6 Zo;clear f a;generalize ((((U.setCell (O (w.heap.size+3) 0) (J R.2.err)).setCell (O (w.heap.size+3) 1) (J R.2.n)).setCell (O (w.heap.size+3) 2) (J R.2.v.k)).setCell (O (w.heap.size+3) 3) (J R.2.v.n))=U at *)
  | (
    refine EZ ?_ ?_ _
    ·decide +kernel
    try simp only[Act.put,Bj,Bl,Bk]
    have ag:=hid (show qY w U/\SesAt (λb=>sl<=b/\b<sb\/sg<=b) U (qS b1 R.1.X.cz.length j1) (qS b2 R.1.X.heap.length j2) (qS b3 R.1.cells.length j3) (qS b4 R.1.ts.length j4) R.1/\SvAt (λb=>sl<=b/\b<sb\/sg<=b) U (qS m R.1.saved.length g) R.1.saved from ⟨hb,a0,a7⟩);have ra:=(EH a6).2;have rb:=(Ec a5).2;go_wp2;refine Bt (v:=.tuple #[Hf (qS b1 R.1.X.cz.length j1) (qS b2 R.1.X.heap.length j2) R.1.X.ez (qS b3 R.1.cells.length j3) (qS b4 R.1.ts.length j4) (qS m R.1.saved.length g),Ej R.2]) ?_ rfl ⟨_,_,_,_,_,rfl,ag.out.2.1.keep (Keeps.refl _ _) λb h=>by omega,ag.out.2.2.keep (Keeps.refl _ _) λb h=>by omega,ag.out.1⟩;simp[results,Tryz.results19,go_sem,ra,rb])
  | fail
theorem xpN (w:qW):Calls Tryz.prog 35 #[] w λe w'=>∃cv hv,e=.returned (WV cv hv 0)/\BK (λb=>w.heap.size<=b/\b<w.heap.size+3) w' cv xlV.cz/\BP (λb=>w.heap.size<=b/\b<w.heap.size+3) w' hv []/\w.heap.size+3<=w'.heap.size/\qY w w':=by
 go_enter Tryz.func35,Tryz.ntmps35;go_wp2;refine Bt (v:=WV (qS (some (O (w.heap.size+1+1) 0)) 4 4) (qN) 0) ?_ rfl ⟨_,_,rfl,?_,GZ,by simp,DW _ _ _ _⟩
 ·simp[results,Tryz.results35,go_sem]
 refine Cells.row (cs:=xqn (qG (w.heap.size+1) 5 5)) (xmq ?_) Bw (by omega) (Dh _ _ _ (by simp)) rfl (by decide) (by unfold maxLen;omega) (by decide);refine IsRow.later ?_ xbj (Bg _ _);exact Cells.row xmx xbj (by omega) (Dh _ _ _ (by simp)) rfl (by decide) (by unfold maxLen;omega) (by decide)
theorem xrn:(Tryz.prog.info? 43).map (λi=>(i.zero,i.size,i.bytes))=some (some (.agg #[J 0,J 0,J 0,J 0]),4,32):=by kernel_rfl
theorem xjn (n:Nat)(a:n*32<=281474976710656):Lz 32 43 #[J 0,J 0,J 0,J 0] 4 n:=λw=>xgb Tryz.underlying32 xrn (by omega) n a rfl w
abbrev xcU:Sn:=⟨xlV,[],[],[]⟩
theorem Gq {α:Type}{E:CT α}{sz bytes:Nat}{P:Nat->Prop}{w:qW}:IsRow E sz bytes P w (qN) ([]:List α):=⟨none,0,rfl,Bq _,by unfold maxLen;omega,by simp,λi x a=>by simp at a⟩
theorem xpJ (w:qW):Calls Tryz.prog 15 #[] w λe w'=>∃cv hv,e=.returned (Hf cv hv 0 (.slice none 0 0) (.slice none 0 0) (.slice none 0 0))/\SesAt (λb=>w.heap.size<=b/\b<w'.heap.size) w' cv hv (.slice none 0 0) (.slice none 0 0) xcU/\qY w w':=by
 have g:(w.alloc (.cells #[.slice none 0 0,.slice none 0 0,.int .i64 0,.slice none 0 0,.slice none 0 0,.slice none 0 0] 31)).heap[w.heap.size]?=some (.cells #[.slice none 0 0,.slice none 0 0,.int .i64 0,.slice none 0 0,.slice none 0 0,.slice none 0 0] 31):=BH _ _;go_enter Tryz.func15,Tryz.ntmps15;go_wp2_with fail;refine (xpN _).mono ?_;rintro e w1 ⟨cv,hv,rfl,k,i,n,d⟩;have f:=Bh (Bg w _) d;obtain⟨a1,k1,rfl,-⟩:=id k;obtain⟨a2,k2,rfl,-⟩:=id i;obtain⟨rf,r0,r1,r2,r3,r4,r5⟩:=EH (Bs g d);obtain⟨-,a⟩:=Mm (Bs g d) (.slice a1 xlV.cz.length k1) (.slice a2 ([]:List QO).length k2) (.int .i64 0) (.slice none 0 0) (.slice none 0 0) (.slice none 0 0);have m:w.heap.size<(w.alloc (.cells #[.slice none 0 0,.slice none 0 0,.int .i64 0,.slice none 0 0,.slice none 0 0,.slice none 0 0] 31)).heap.size:=by simp
 obtain⟨F,c⟩:∃F,((((((w1.setCell ⟨w.heap.size,0,none⟩ (.slice a1 xlV.cz.length k1)).setCell ⟨w.heap.size,1,none⟩ (.slice a2 ([]:List QO).length k2)).setCell ⟨w.heap.size,2,none⟩ (.int .i64 0)).setCell ⟨w.heap.size,3,none⟩ (.slice none 0 0)).setCell ⟨w.heap.size,4,none⟩ (.slice none 0 0)).setCell ⟨w.heap.size,5,none⟩ (.slice none 0 0))=F:=⟨_,rfl⟩;rw[c] at a;have l:=a.size;have j:=hid (show SesAt (λb=>w.heap.size<=b/\b<F.heap.size) F _ _ (.slice none 0 0) (.slice none 0 0) xcU/\qY w F from ⟨⟨k.keep Bw (a.keeps (by omega)) λb h=>by omega,i.keep BB (a.keeps (by omega)) λb h=>by omega,Gq,Gq⟩,f.trans (a.below (Bq _))⟩);rw[← c] at j;clear c;go_wp2;refine Bt (v:=Hf (.slice a1 xlV.cz.length k1) (.slice a2 ([]:List QO).length k2) 0 (.slice none 0 0) (.slice none 0 0) (.slice none 0 0)) ?_ rfl ⟨_,_,rfl,j.out⟩;simp[results,Tryz.results15,go_sem,r0,r1,r2,r3,r4,r5]
theorem xdv:∀(l:List StE) (s:Sn),(GR s l).length=l.length
 | [],_=>rfl
 | x :: l,s=>by simp[GR,xdv l]
theorem xhd:∀(l:List StE) (s:Sn) (j:Nat) (x:StE),l[j]?=some x->(GR s l)[j]?=some (Cg (Ek s (l.take j)) x).2
 | [],_,_,_,h=>by simp at h
 | y :: l,s,0,x,h=>by
  simp at h;subst h;rfl
 | y :: l,s,j+1,x,h=>by
  have:=xhd l (Cg s y).1 j x (by simpa using h);show (GR (Cg s y).1 l)[j]?=_;rw[this];rfl
theorem xmZ {l:List StE}{s:Sn}{j:Nat}{x:StE}(h:l[j]?=some x):Ek s (l.take (j+1))=(Cg (Ek s (l.take j)) x).1:=by
 have:l.take (j+1)=l.take j++[x]:=by
  rw[List.take_add_one,h];rfl
 rw[this];unfold Ek;rw[List.foldl_append];rfl
end Go.Proofs.YtbafokihegegiaaGreatDoor
