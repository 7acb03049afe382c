import Derived.Test.YtbafokihegegiaaGreatDoorU15
namespace Go.Proofs.YtbafokihegegiaaGreatDoor
open ChangeShapes WideShapes ChangeAt RowKit
set_option linter.unusedSimpArgs false
set_option linter.unusedVariables false
set_option maxHeartbeats 8000000
set_option maxRecDepth 8000
abbrev qT(r:ReE):Obj:=.cells #[.int .i64 r.err,.int .i64 r.n,.int .i64 r.v.k,.int .i64 r.v.n] 43
abbrev qB(x:StE)(a:Option Addr)(b:Nat)(c:Option Addr)(d:Nat):Obj:=.cells #[.int .i64 x.kind,.string x.name,.int .i64 x.cls,.int .i64 x.slots,.string x.meth.name,.int .i64 x.meth.args,.int .i64 x.meth.temps,.int .i64 x.meth.prim,.slice a x.meth.code.length b,.int .i64 x.sf.k,.int .i64 x.sf.n,.string x.cname,.slice c x.args.length d] 56
structure LkF (X:QW)(l:List Fst)(b b1 b2:Nat)(cv hv fv:Value)(T:Nat->Nat)(w:qW)(st:Unit)(n:Nat):Prop where
 lk:LkP X b cv hv T w st n
 pk:LkP X b1 cv hv T w st n
 tag:T b2=0
 lt:b2<w.heap.size
 c0:w.cell? (O b2 0)=some fv
 fs:MF (Fx T w) w fv l
theorem Pz (X:QW)(l:List Fst)(b b1 b2:Nat)(cv hv fv:Value):Lok (LkF X l b b1 b2 cv hv fv):=
 ⟨λh e k a _=>⟨h.lk.keep e k a,h.pk.keep e k a,by rw[e _ h.lt];exact h.tag,Cd h.lt k.size,k.cell h.c0 (by rw[h.tag];exact a),h.fs.fx Ly e k a⟩,λh c=>⟨(PM X b cv hv).mono h.lk c,(PM X b1 cv hv).mono h.pk c,h.tag,h.lt,h.c0,h.fs⟩⟩
theorem xjK {X:QW}{b:Nat}{cv hv:Value}{T:Nat->Nat}{w:qW}{n:Nat}(h:LkP X b cv hv T w () n)(s:QS)(c:Int)(name:ByteArray):Calls Tryz.prog 146 #[SV s,J c,qZ name,qP b] w λe w'=>e=.returned (.tuple #[J (BF X.cz c name).1,J (BF X.cz c name).2])/\qY w w':=by
 have f:=Bg w (qJ s);have g:=h.keep (T':=T) (.refl _ _) (Kp.of_below (S:=λ_=>False) f) id;have i:=λw' (hb:Below (w.alloc (qJ s)).heap.size (w.alloc (qJ s)) w')=>Mb X c name cv hv w' ((g.cls.mono (Q:=λ_=>True) Bw λ_ _=>trivial).later Bw hb) ((g.heap.mono (Q:=λ_=>True) BB λ_ _=>trivial).later BB hb);obtain⟨-,-,w0,w1,w2,j,l⟩:=id g;obtain⟨ac,cc,rfl,-⟩:=id j;obtain⟨ah,ch,rfl,-⟩:=id l;clear h g j l;obtain⟨r1,r2,k⟩:∃r1 r2,BF X.cz c name=(r1,r2):=⟨_,_,rfl⟩;rw[k] at i ⊢;clear k;go_enter Tryz.func146,Tryz.ntmps146;go_upto_region 1 with (fail);generalize (w.alloc (qJ s))=W at *;go_wp2_with fail;refine (i _ (Br _ _)).mono ?_;rintro e d ⟨rfl,a⟩;have m:=hid (Bh f a);clear w0 w1 w2 i a;go_wp2;refine Bt (v:=.tuple #[J r1,J r2]) ?_ rfl ⟨rfl,m.out⟩;simp[results,Tryz.results146,go_sem]
theorem xkA (cv hv:Value)(ep:Int)(w:qW)(b:∃a n c,cv=qS a n c)(d:∃a n c,hv=qS a n c):Calls Tryz.prog 112 #[WV cv hv ep] w λe w'=>e=.returned (.func (.func 146) #[] #[qP w.heap.size])/\w'.cell? (O w.heap.size 0)=some cv/\w'.cell? (O w.heap.size 1)=some hv/\w'.cell? (O w.heap.size 2)=some (J ep)/\w.heap.size<w'.heap.size/\qY w w':=by
 obtain⟨a,n,c,rfl⟩:=b;obtain⟨a2,n2,c2,rfl⟩:=d;go_enter Tryz.func112,Tryz.ntmps112;go_wp2;go_ret;exact⟨rfl,Bp _ _ _ _ rfl 0,Bp _ _ _ _ rfl 1,Bp _ _ _ _ rfl 2,by simp,Bg _ _⟩
theorem xmb (cv hv fv:Value)(ep:Int)(w:qW)(b:∃a n c,cv=qS a n c)(d:∃a n c,hv=qS a n c)(f:∃a n c,fv=qS a n c):Calls Tryz.prog 113 #[WV cv hv ep,fv] w λe w'=>e=.returned (.func (.func 147) #[] #[qP w.heap.size,qP (w.heap.size+1)])/\w'.cell? (O w.heap.size 0)=some cv/\w'.cell? (O w.heap.size 1)=some hv/\w'.cell? (O w.heap.size 2)=some (J ep)/\w'.cell? (O (w.heap.size+1) 0)=some fv/\w.heap.size+2<=w'.heap.size/\qY w w':=by
 obtain⟨a,n,c,rfl⟩:=b;obtain⟨a2,n2,c2,rfl⟩:=d;obtain⟨a3,n3,c3,rfl⟩:=f;go_enter Tryz.func113,Tryz.ntmps113;go_wp2;go_ret;exact⟨rfl,Bf (Bg _ _) (Bp _ _ _ _ rfl 0),Bf (Bg _ _) (Bp _ _ _ _ rfl 1),Bf (Bg _ _) (Bp _ _ _ _ rfl 2),Bp _ _ _ _ (by simp) 0,by simp,BG _ _ _⟩
theorem xon {α:Type}{p:α->Bool}:∀ {l:List α} {j:Nat} {y:α},l[j]?=some y->p y=true->(∀i z,i<j->l[i]?=some z->p z=false)->l.find? p=some y
 | [],j,y,h,_,_=>by simp at h
 | a :: l,0,y,h,hy,_=>by simp at h;subst h;simp[hy]
 | a :: l,j+1,y,h,hy,hn=>by
  have c:=hn 0 a (by omega) rfl;rw[List.find?_cons_of_neg (by simp[c])];exact xon (l:=l) (j:=j) (by simpa using h) hy λi z d b=>hn (i+1) z (by omega) (by simpa using b)
theorem xkD {α:Type}{p:α->Bool}{l:List α}(h:∀i z,i<l.length->l[i]?=some z->p z=false):l.find? p=none:=by
 rw[List.find?_eq_none];intro z b;obtain⟨i,a,rfl⟩:=List.getElem_of_mem b;have:=h i l[i] a (by simp[a]);simp[this]
structure PkR (Z:qW)(b1:Nat)(cv hv:Value)(ep:Int)(wr:qW):Prop where
 bel:qY Z wr
 w0:wr.cell? (O b1 0)=some cv
 w1:wr.cell? (O b1 1)=some hv
 w2:wr.cell? (O b1 2)=some (J ep)
 z0:wr.heap[Z.heap.size]?=some (qI)
theorem PkR.later {Z:qW}{b1:Nat}{cv hv:Value}{ep:Int}{wr w':qW}(h:PkR Z b1 cv hv ep wr)(a:qY wr w'):PkR Z b1 cv hv ep w':=⟨Bh h.bel a,Bf a h.w0,Bf a h.w1,Bf a h.w2,Bs h.z0 a⟩
theorem xk0 {X:QW}{l:List Fst}{b b1 b2:Nat}{cv hv fv:Value}{T:Nat->Nat}{w:qW}{n:Nat}(h:LkF X l b b1 b2 cv hv fv T w () n)(c k:Int)(mt:QM)(hm:Cp X.cz c k=some mt) :
  Calls Tryz.prog 147 #[J c,J k,qP b1,qP b2] w λe w'=>(∃fc fn fe ft av nv cv,e=.returned (.tuple #[Lp fc fn fe ft (qS av nv cv),.bool (Gw X (FY X) l c k).isSome])/\∀q,Gw X (FY X) l c k=some q->ft=q.2/\Cm (Fx T w') w' (qS av nv cv) q.1)/\qY w w':=by
 obtain⟨-,u,-,-,f0,p⟩:=h;obtain⟨-,-,w0,w1,w2,hc,hh⟩:=id u;obtain⟨kc,kn,x,rfl,rfl,hx,s⟩:=Pn hm;obtain⟨aC,cc,rfl,Y,C,L,d⟩:=id hc;obtain⟨ah,ch,rfl,-⟩:=id hh;obtain⟨aF,fc,rfl,S,G,K,m⟩:=id p;obtain⟨bC,oC,rfl,-,F⟩:=d kc x hx;obtain⟨x0,x1,x2,-,mv,x3,z⟩:=F;obtain⟨aM,cm,rfl,R,D,H,g⟩:=id z;obtain⟨bM,oM,rfl,-,B⟩:=g kn mt s;obtain⟨m0,-⟩:=B;have hP:Hid (Gw X (FY X) l (kc:Int) (kn:Int)=(l.find? λf=>decide (f.cls=(kc:Int)) && CD f.name mt.name && FY X f).map λf=>(f.code,f.temps)):=by show _=_;unfold Gw;rw[hm]
 have ai:=Bz hx;have ad:=Bz s;have hZ:PkR w b1 (qS (some (O bC oC)) X.cz.length cc) (qS ah X.heap.length ch) X.ez (w.alloc (qI)):=⟨Bg _ _,Bf (Bg _ _) w0,Bf (Bg _ _) w1,Bf (Bg _ _) w2,BH w _⟩;have q1:=Bf (Bg w (qI)) x3;have q2:=Bf (Bg w (qI)) m0;have q3:=Bf (Bg w (qI)) f0;have k1:(kc:Int)<(X.cz.length:Int):=by omega
 have k2:(kn:Int)<(x.mz.length:Int):=by omega
 have k3:(0:Int)<=(kc:Int):=by omega
 have k4:(0:Int)<=(kn:Int):=by omega
 have HF:=hid p;clear hm hc hh p d z g x0 x1 x2 x3 m0 f0 w0 w1 w2 u;have a7:=hid m;clear m;simp only[Nat.add_zero] at q2;unfold maxLen at C D G;go_enter Tryz.func147,Tryz.ntmps147;go_upto_region 1 with (fail);have a5:=hid hZ;generalize (w.alloc (qI))=W at *;obtain⟨-,w0,w1,w2,-⟩:=id hZ;clear hZ;go_upto_region 2 with (fail);have ag:(l.length:Int)<=9223372036854775807:=by omega
 go_upto_region 3 with (fail);clear w0 w1 w2 q1 q2 q3 k1 k2 k3 k4
 go_loopg [23] l.length (λgk c wr=>∃j:Nat,j+gk=l.length/\c=J j/\PkR w b1 (qS (some (O bC oC)) X.cz.length cc) (qS ah X.heap.length ch) X.ez wr/\∀i y,i<j->l[i]?=some y->(decide (y.cls=(kc:Int)) && CD y.name mt.name && FY X y)=false)
 case atStart=>exact⟨0,by omega,rfl,a5.out,λi y hi=>by omega⟩
 case round=>
  clear a5;obtain⟨j,hj,rfl,a,t⟩:=hrel;have HO:=hid t;clear t;obtain⟨-,w0,w1,w2,z0⟩:=id a;by_cases hlt:j<l.length
  ·have a3:l[j]?=some l[j]:=by simp[hlt]
   have HX:=hid a3;generalize l[j]=y at *;obtain⟨b',o',rfl,-,y0,y1,y2,y3,yv,y4,o⟩:=a7.out j y a3;obtain⟨ay,cy,rfl,-⟩:=id o;simp only[Nat.add_zero] at y0;have u0:=Bf a.bel y0;have u1:=Bf a.bel y1;have u2:=Bf a.bel y2;have u3:=Bf a.bel y3;have u4:=Bf a.bel y4;have ab:=hid o;clear y0 y1 y2 y3 y4 a3 o;have ae:(j:Int)<(l.length:Int):=by omega
   have af:(0:Int)<=(j:Int):=by omega
   have a4:=Bg wr (qC #[J y.cls,qZ y.name,J y.ez,J y.temps,qS ay y.code.length cy] 187);have a6:=a.later a4;have a2:(wr.alloc (qC #[J y.cls,qZ y.name,J y.ez,J y.temps,qS ay y.code.length cy] 187)).heap[wr.heap.size]?=some (qC #[J y.cls,qZ y.name,J y.ez,J y.temps,qS ay y.code.length cy] 187 (0,0)):=BH wr _;go_upto_region 5 with (fail);generalize (wr.alloc (qC #[J y.cls,qZ y.name,J y.ez,J y.temps,qS ay y.code.length cy] 187))=V at *;generalize wr.heap.size=bx at *
   obtain⟨v0,v1,v2,v3,v4⟩:V.cell? (O bx 0)=some (J y.cls)/\V.cell? (O bx 1)=some (qZ y.name)/\V.cell? (O bx 2)=some (J y.ez)/\V.cell? (O bx 3)=some (J y.temps)/\V.cell? (O bx 4)=some (qS ay y.code.length cy):=by
    refine⟨?_,?_,?_,?_,?_⟩<;>(rw[Bn a2];rfl)
   obtain⟨a1,Q,M,N,r⟩:=id a6;have zf:=BN r
   obtain⟨z1,z2,z3,z4,z5⟩:V.cell? (O w.heap.size 0)=some (J 0)/\V.cell? (O w.heap.size 1)=some (qZ ⟨#[]⟩)/\V.cell? (O w.heap.size 2)=some (J 0)/\V.cell? (O w.heap.size 3)=some (J 0)/\V.cell? (O w.heap.size 4)=some (qN):=by
    refine⟨?_,?_,?_,?_,?_⟩<;>(rw[Bn r];rfl)
   clear u0 u1 u2 u3 u4 w0 w1 w2 z0 a2 a4 a;by_cases hyes:(decide (y.cls=(kc:Int)) && CD y.name mt.name && FY X y)=true
   ·have Z:Hid (Gw X (FY X) l (kc:Int) (kn:Int)=some (y.code,y.temps)):=by
     show _=_;rw[hP.out,xon HX.out hyes HO.out];rfl
    simp only[Bool.and_eq_true,decide_eq_true_eq,CD,FY] at hyes;obtain⟨⟨e1,e2⟩,e3⟩:=hyes;have e1':(y.cls == (kc:Int))=true:=by simpa using e1
    have e3':(y.ez == X.ez)=true:=by simpa using e3
    have HV:Hid (∀U:qW,qY w U->Cm (Fx T U) U (qS ay y.code.length cy) y.code):=λU hU=>(ab.out.later BR hU).mono BR λb hb=>⟨Cd hb.1 hU.size,hb.2⟩
    clear e1 e3;go_wp2;refine Bt (v:=.tuple #[Lp y.cls y.name y.ez y.temps (qS ay y.code.length cy),.bool true]) ?_ rfl ⟨⟨_,_,_,_,_,_,_,by rw[Z.out];rfl,λq hq=>by rw[Z.out] at hq;cases hq;exact⟨rfl,HV.out _ (((((a1.setCell (by simp) _).setCell (by simp) _).setCell (by simp) _).setCell (by simp) _).setCell (by simp) _)⟩⟩,((((a1.setCell (by simp) _).setCell (by simp) _).setCell (by simp) _).setCell (by simp) _).setCell (by simp) _⟩;simp[results,Tryz.results147,go_sem,z1,z2,z3,z4,z5]
   have a0:(decide (y.cls=(kc:Int)) && CD y.name mt.name && FY X y)=false:=by simpa using hyes
   have HN:=hid a0
   have aa:(y.cls == (kc:Int))=false\/((y.cls == (kc:Int))=true/\(y.name.toList == mt.name.toList)=false)\/((y.cls == (kc:Int))=true/\(y.name.toList == mt.name.toList)=true/\(y.ez == X.ez)=false):=by
    unfold CD FY at a0
    cases h1:(y.cls == (kc:Int))
    ·exact .inl rfl
    cases h2:(y.name.toList == mt.name.toList)
    ·exact .inr (.inl ⟨rfl,rfl⟩)
    refine .inr (.inr ⟨rfl,rfl,?_⟩);have a8:y.cls=(kc:Int):=by simpa using h1
    rw[h2] at a0;simpa [a8] using a0
   clear a0 hyes;have a9:=hid a6;clear a1 r zf z1 z2 z3 z4 z5;rcases aa with e1 | ⟨e1,e2⟩ | ⟨e1,e2,e3⟩
   all_goals (
    go_wp2;go_roundg (gk-1)
    case measure=>omega
    case rel=>
     refine⟨j+1,by omega,by go_num,a9.out,λi y' hi hy=>?_⟩;by_cases hij:i=j
     ·subst hij;rw[HX.out] at hy;cases hy;exact HN.out
     ·exact HO.out i y' (by omega) hy)
  obtain rfl:j=l.length:=by omega
  have Z:Hid (Gw X (FY X) l (kc:Int) (kn:Int)=none):=by
   show _=_;rw[hP.out,xkD HO.out];rfl
  have zf:=BN z0
  obtain⟨z1,z2,z3,z4,z5⟩:wr.cell? (O w.heap.size 0)=some (J 0)/\wr.cell? (O w.heap.size 1)=some (qZ ⟨#[]⟩)/\wr.cell? (O w.heap.size 2)=some (J 0)/\wr.cell? (O w.heap.size 3)=some (J 0)/\wr.cell? (O w.heap.size 4)=some (qN):=by
   refine⟨?_,?_,?_,?_,?_⟩<;>(rw[Bn z0];rfl)
  have a1:=a.bel;clear w0 w1 w2 a z0;go_wp2;refine Bt (v:=.tuple #[Lp 0 ⟨#[]⟩ 0 0 (qN),.bool false]) ?_ rfl ⟨⟨_,_,_,_,_,_,_,by rw[Z.out];rfl,λq hq=>by rw[Z.out] at hq;cases hq⟩,((((a1.setCell (by simp) _).setCell (by simp) _).setCell (by simp) _).setCell (by simp) _).setCell (by simp) _⟩;simp[results,Tryz.results147,go_sem,z1,z2,z3,z4,z5]
structure FewF (l:List Fst):Prop where
 few:∀f∈l,f.code.length<=500/\∀x∈f.code,x.op=18->0<=x.b/\x.b<=1000
theorem xrL {X:QW}(i:BM X=0){fuel:Int}(o:fuel<=400){l:List Fst}(m:∀f∈l,KQ X f)(a:FewF l)(b b1 b2:Nat)(cv hv fv d:Value):Cx (⟨Lc X fuel (Gw X (FY X) l),d,X.ez,.func (.func 146) #[] #[qP b],.func (.func 147) #[] #[qP b1,qP b2]⟩:Mp Unit) (LkF X l b b1 b2 cv hv fv) 146 #[qP b] 147 #[qP b1,qP b2] where
 lv:=rfl
 qv:=rfl
 lcf:=Pg Tryz.func146 (by kernel_rfl) (by kernel_rfl)
 qcf:=Pg Tryz.func147 (by kernel_rfl) (by kernel_rfl)
 ok:=xo3 i (FY X) (λf h _=>m f h) fuel
 fuel:=by show fuel<=_;omega
 keep h e k h0 h3:=(Pz X l b b1 b2 cv hv fv).keep h e k h0 h3
 mono h hn:=(Pz X l b b1 b2 cv hv fv).mono h hn
 look T w st s c name n h:=(xjK h.lk s c name).mono λe w' g=>⟨g.1,⟨T,.refl _ _,(Pz X l b b1 b2 cv hv fv).mono ((Pz X l b b1 b2 cv hv fv).keep (T':=T) h (.refl _ _) (Kp.of_below (S:=λ_=>False) g.2) id id) (Nat.le_succ n)⟩,Kp.of_below g.2⟩
 quick T w st c k mt n h hm:=xk0 h c k mt hm
 few c k mt hm:=⟨by have:=xgI i hm;omega,λq h=>by
  obtain⟨f,j,-,-,-,rfl⟩:=xgE (show Gw X (FY X) l c k=some q from h);exact a.few f j⟩
theorem xqQ {P Q R:Nat->Prop}(X:QW)(g:BM X=0)(s:QV)(name:ByteArray)(a:List QV)(fuel:Int){l:List Fst}(u:∀f∈l,KQ X f)(c:FewF l)(cv hv av fv:Value)(w:qW)(q:BK P w cv X.cz)(t:BP P w hv X.heap)(p:CG Q w av a)(r:MF R w fv l)(y:name.size<=140737488351232)(b b1 b2:Nat)(j:b<w.heap.size)(f0:w.cell? (O b 0)=some cv)(f1:w.cell? (O b 1)=some hv)(f2:w.cell? (O b 2)=some (J X.ez))(k:b1<w.heap.size)(g0:w.cell? (O b1 0)=some cv)(g1:w.cell? (O b1 1)=some hv)(g2:w.cell? (O b1 2)=some (J X.ez))(m:b2<w.heap.size)(e0:w.cell? (O b2 0)=some fv) :
  Calls Tryz.prog 108 #[WV cv hv X.ez,EL s name av,J fuel,.func (.func 146) #[] #[qP b],.func (.func 147) #[] #[qP b1,qP b2]] w λe w'=>PlPost w X (DQ (Lc X fuel (Gw X (FY X) l)) X () s name a fuel).1 e w':=by
 have k3:BK (Fx (λ_=>0) w) w cv X.cz:=(xdx q).keep Bw (Keeps.refl _ _) λb d=>⟨d,rfl⟩
 have k4:BP (Fx (λ_=>0) w) w hv X.heap:=(xfO t).keep BB (Keeps.refl _ _) λb d=>⟨d,rfl⟩
 have k5:MF (Fx (λ_=>0) w) w fv l:=by
  obtain⟨ad,cap,q1,q2,q3,q4,q5⟩:=r;refine⟨ad,cap,q1,q2,q3,q4,λi x z=>?_⟩;obtain⟨bb,o,r1,-,r3,r4,r5,r6,v,r7,r8⟩:=q5 i x z;exact⟨bb,o,r1,⟨World.block_lt_of_cell? _ _ r3,rfl⟩,r3,r4,r5,r6,v,r7,(xh6 r8).keep BR (Keeps.refl _ _) λb d=>⟨d,rfl⟩⟩
 exact (xiL (T0:=λ_=>0) X g (Lc X fuel (Gw X (FY X) l)) () rfl s name a cv hv av w (λ_ _=>.inl rfl) k3 k4 ((xek p).keep BZ (Keeps.refl _ _) λb d=>⟨d,rfl⟩) y (Pz X l b b1 b2 cv hv fv) ⟨⟨rfl,j,f0,f1,f2,k3,k4⟩,⟨rfl,k,g0,g1,g2,k3,k4⟩,rfl,m,e0,k5⟩ (λ_ n cv'=>xrL g n u c b b1 b2 cv hv fv cv')).mono λe w' h=>h.plain
theorem xpK {P Q R:Nat->Prop}(X:QW)(hX:BM X=0)(s:QV)(name:ByteArray)(a:List QV)(fuel:Int){l:List Fst}(hl:∀f∈l,KQ X f)(o:FewF l)(cv hv av fv:Value)(w:qW)(L:BK P w cv X.cz)(N:BP P w hv X.heap)(K:CG Q w av a)(M:MF R w fv l)(hn:name.size<=140737488351232) :
  Calls Tryz.prog 87 #[WV cv hv X.ez,EL s name av,J fuel,fv] w λe w'=>PlPost w X (DQ (Lc X fuel (Gw X (FY X) l)) X () s name a fuel).1 e w':=by
 have hR:=(xkJ w cv hv X.ez s name av).later (Br _ _).drew;have V:qY w ((((w.alloc (qC #[cv,hv,J X.ez] 26)).alloc (qC #[J s.k,J s.n,qZ name,av] 54)).alloc (qO)).alloc (qC #[J 0,J 0,J 0,J 0] 98)).drew:=(Bh (BG _ _ _) (BG _ _ _)).drew;obtain⟨ac,cc,rfl,-,-,t,-⟩:=id L;obtain⟨ah,ch,rfl,-,-,p,-⟩:=id N;obtain⟨aa,ca,rfl,-⟩:=id K;obtain⟨j,m,rfl,-⟩:=id M;go_enter Tryz.func87,Tryz.ntmps87;go_upto_region 1 with (fail);generalize ((((w.alloc (qA ac cc ah ch X)).alloc (qK s name aa a ca)).alloc (qO)).alloc (qC #[J 0,J 0,J 0,J 0] 98))=W at *;have S:=hR.pn;have Y:=λw'=>xkA (qS ac X.cz.length cc) (qS ah X.heap.length ch) X.ez w' ⟨_,_,_,rfl⟩ ⟨_,_,_,rfl⟩;have Z:=λw'=>xmb (qS ac X.cz.length cc) (qS ah X.heap.length ch) (qS j l.length m) X.ez w' ⟨_,_,_,rfl⟩ ⟨_,_,_,rfl⟩ ⟨_,_,_,rfl⟩;have G:=λ(w':qW) (hb:qY w w') (b b1 b2:Nat) h1 h2 h3 h4 h5 h6 h7 h8 h9 h10=>xqQ X hX s name a fuel hl o _ _ _ _ w' (L.later Bw hb) (N.later BB hb) (K.later BZ hb) (M.later Ly hb) hn b b1 b2 h1 h2 h3 h4 h5 h6 h7 h8 h9 h10
 obtain⟨r,hr⟩:∃r,(DQ (Lc X fuel (Gw X (FY X) l)) X () s name a fuel).1=r:=⟨_,rfl⟩;rw[hr] at G;have H:=hid hr;clear L N K M hr;simp only[Nat.add_assoc,Nat.reduceAdd] at *;have tokA:True:=trivial;have tokB:True:=trivial
 go_region_held3 (λw'=>w'.cell? (O w.heap.size 0)=some (qS ac X.cz.length cc)/\w'.cell? (O w.heap.size 1)=some (qS ah X.heap.length ch)/\w'.cell? (O w.heap.size 2)=some (J X.ez)/\w'.cell? (O (w.heap.size+1) 0)=some (J s.k)/\w'.cell? (O (w.heap.size+1) 1)=some (J s.n)/\w'.cell? (O (w.heap.size+1) 2)=some (qZ name)/\w'.cell? (O (w.heap.size+1) 3)=some (qS aa a.length ca))
  (first | with_reducible exact S.al | with_reducible exact T.al | with_reducible exact U.al | with_reducible exact z.al | with_reducible exact (((z.set (Or.inl rfl) _ _).set (Or.inl rfl) _ _).set (Or.inl rfl) _ _).al | with_reducible exact (((((((z.set (Or.inl rfl) _ _).set (Or.inl rfl) _ _).set (Or.inl rfl) _ _).set (Or.inr rfl) _ _).set (Or.inr rfl) _ _).set (Or.inr rfl) _ _).set (Or.inr rfl) _ _).al | with_reducible exact ((((z.set (Or.inr rfl) _ _).set (Or.inr rfl) _ _).set (Or.inr rfl) _ _).set (Or.inr rfl) _ _).al)
  (first
   | (have _t:=tokA;have _u:=tokB;go_at_call 112;refine (Y _).mono ?_;rintro e w2 ⟨rfl,f0,f1,f2,fz,h⟩;have C:=hR.later h;have T:=C.pn;have F:=Bh V h;clear tokA)
   | (have _u:=tokB;go_at_call 113;refine (Z _).mono ?_;rintro e w3 ⟨rfl,g0,g1,g2,g3,gz,c⟩;have y:=C.later c;have U:=y.pn;have B:=Bh F c;replace f0:=Bf c f0;replace f1:=Bf c f1;replace f2:=Bf c f2;have fz3:=Cd fz c.size;clear tokB)
   | (go_at_call 108;refine (G _ B _ _ _ fz3 f0 f1 f2 (by omega) g0 g1 g2 (by omega) g3).mono ?_;rintro e w4 ⟨i,q,u,rfl,d,g⟩;have D:=y.later i;have z:=D.pn;have HQ:=hid (λu0 u1 u2 v0 v1 v2 v3=>PlPost.fin (r:=r) (X:=X) (P:=λb=>w3.heap.size<=b) (Bh B i) d g (by have:=y.sz;omega) (by have:=y.sz;omega) (λx hx=>by have:=y.sz;omega) u0 u1 u2 v0 v1 v2 v3);obtain⟨a3,k3,rfl,-⟩:=id d;obtain⟨a4,k4,rfl,-⟩:=id g;obtain⟨-,-,-,-,-,-,-,a0,a1,a2,af,b0,b1,b2,b3,bf,-⟩:=id D;clear d g))
 all_goals (
  go_wp2;rw[H.out];refine Bt (v:=.tuple #[WV (qS a3 X.cz.length k3) (qS a4 r.heap.length k4) X.ez,Hh r]) ?_ rfl (HQ.out _ _ _ _ _ _ _);simp[results,Tryz.results87,go_sem,a0,a1,a2,b0,b1,b2,b3])
theorem xsz {w:qW}{B:Nat}{x y z:Value}{t:TypeId}(h:w.heap[B]?=some (qC #[x,y,z] t (0,0))):(w.cell? (O B 0)=some x/\w.cell? (O B 1)=some y/\w.cell? (O B 2)=some z)/\(∀o,w.frozen? (O B o)=false):=by
 refine⟨⟨?_,?_,?_⟩,λo=>by unfold World.frozen?;simp[h]⟩<;>rw[Bn h]<;>rfl
theorem xrk (a:Array Value)(w:qW):(callFunc 114 a).run Tryz.prog w=.ok (.enter 114 a) w:=FN Tryz.func114 (by kernel_rfl) (by kernel_rfl) a w
theorem xsl (a:Array Value)(w:qW):(callFunc 115 a).run Tryz.prog w=.ok (.enter 115 a) w:=FN Tryz.func115 (by kernel_rfl) (by kernel_rfl) a w
theorem xo2 {w:qW}{B:Nat}{x y z u v:Value}{t:TypeId}(h:w.heap[B]?=some (qC #[x,y,z,u,v] t (0,0))):w.cell? (O B 0)=some x/\w.cell? (O B 1)=some y/\w.cell? (O B 2)=some z/\w.cell? (O B 3)=some u/\w.cell? (O B 4)=some v:=by
 refine⟨?_,?_,?_,?_,?_⟩<;>rw[Bn h]<;>rfl
def PK (wr:qW)(r:Fst × Bool)(pv ov:Value)(wx:qW):Prop:=
 ∃(bf:Nat) (a:Option Addr) (cap:Nat),pv=qP bf/\ov=.bool r.2/\wx.heap[bf]?=some (qC #[J r.1.cls,qZ r.1.name,J r.1.ez,J r.1.temps,qS a r.1.code.length cap] 187 (0,0))/\qY wr wx/\Cm (λb=>wr.heap.size<=b) wx (qS a r.1.code.length cap) r.1.code
theorem xn1 {wr U:qW}{r:Fst × Bool}{bf:Nat}{a:Option Addr}{cap:Nat}{P:Nat->Prop}{u0 u1 u2 u3 u4:Value}(h:qY wr U)(c:wr.heap.size<=bf)(g:U.heap[bf]?=some (qC #[u0,u1,u2,u3,u4] 187 (0,0)))(f:Cm P U (qS a r.1.code.length cap) r.1.code)(e:∀b,P b->wr.heap.size<=b/\b≠bf):PK wr r (qP bf) (.bool r.2) (Hp U bf (J r.1.cls) (qZ r.1.name) (J r.1.ez) (J r.1.temps) (qS a r.1.code.length cap)):=by
 refine⟨bf,a,cap,rfl,rfl,?_,xsA h c,f.keep BR (Keeps.of_block λb d _=>xsN (e b d).2) λb d=>(e b d).1⟩;unfold Hp;rw[BW (BW (BW (BW (BW g _) _) _) _) _];rfl
theorem xp9 {P P2:Nat->Prop}(X:QW)(hX:BM X=0)(t:List QT)(cv hv tv:Value)(w:qW)(hC:BK P w cv X.cz)(hH:BP P w hv X.heap)(hT:Ep P2 w tv t) :
  Calls Tryz.prog 88 #[WV cv hv X.ez,tv] w λe w'=>∃a cap,e=.returned (qS a (ES X t X.cz.length).length cap)/\MF (λb=>w.heap.size<=b) w' (qS a (ES X t X.cz.length).length cap) (ES X t X.cz.length)/\qY w w':=by
 obtain⟨ac,cc,rfl,W,C,-,n⟩:=id hC;obtain⟨ah,ch,rfl,-⟩:=id hH;obtain⟨q,ct,rfl,-⟩:=id hT;unfold maxLen at C;have au:=xjU hX;have h8:=xkH hX
 obtain⟨b1,o1,rfl⟩:∃b1 o1,ac=some (O b1 o1):=by
  have ao:0<X.cz.length:=by
   unfold BM at hX;split at hX
   ·cases hX
   omega
  obtain⟨b,o,e,-⟩:=n 0 X.cz[0] (List.getElem?_eq_getElem ao);exact⟨b,o,e⟩
 clear n;have ag:=xrr w (qC #[qS (some (O b1 o1)) X.cz.length cc,qS ah X.heap.length ch,J X.ez] 26);have ak:=Bg w (qC #[qS (some (O b1 o1)) X.cz.length cc,qS ah X.heap.length ch,J X.ez] 26);have kb:(w.alloc (qC #[qS (some (O b1 o1)) X.cz.length cc,qS ah X.heap.length ch,J X.ez] 26)).heap[w.heap.size]?=some (qC #[qS (some (O b1 o1)) X.cz.length cc,qS ah X.heap.length ch,J X.ez] 26 (0,0)):=BH _ _;go_enter Tryz.func88,Tryz.ntmps88;go_upto_region 2 with (fail);generalize w.alloc (qC #[qS (some (O b1 o1)) X.cz.length cc,qS ah X.heap.length ch,J X.ez] 26)=W0 at *;obtain⟨⟨k0,k1,k2⟩,-⟩:=xsz kb;go_wp2;clear k0 k1 k2
 go_loopg [5,13] X.cz.length (λg v iv wr=>∃(j:Nat) (cs:List Value),j+g=X.cz.length/\iv=J (j:Int)/\FaL W0 (w.heap.size+1) (ES X t j) cs v wr)
 case atStart=>exact⟨0,[],by omega,rfl,by simpa [ES] using ag⟩
 case round=>
  clear ag;obtain⟨j,cs,hj,rfl,hL⟩:=hrel;rename_i vo _;obtain⟨a,cap,rfl,y,G⟩:=hL.form;have a4:qY w wr:=ak.trans ⟨hL.bel.os,hL.bel.tape,hL.bel.output,hL.bel.size,λb hb=>hL.bel.block b Zo⟩;by_cases hlt:j<X.cz.length
  ·obtain⟨x,hx⟩:∃x,X.cz[j]?=some x:=⟨_,List.getElem?_eq_getElem hlt⟩;have HX:=CH hx;obtain⟨M,V,e2,-,-,-,p⟩:=hC.later Bw a4
   cases e2;obtain⟨b2,o2,e3,-,u0,u1,u2,-,mv,u3,H⟩:=p j x hx
   cases e3;obtain⟨am,cm,rfl,T,D,-,-⟩:=H;simp only[Nat.add_zero] at u0;unfold maxLen at D;have aj:Hid (Mr X j=x.mz.length):=by show _=_;unfold Mr;rw[hx]
   have ap:x.mz.length<=8:=by rw[← aj.out];exact h8 j
   have aq:(j:Int)<(X.cz.length:Int):=by omega
   have ar:(0:Int)<=(j:Int):=by omega
   have kb1:=(hL.bel.block w.heap.size Zo).trans kb;obtain⟨⟨k0,k1,k2⟩,-⟩:=xsz kb1;have HJ:=CH hj;have ae:=hL;clear p hx;go_wp2;clear u0 u1 u2 u3 k0 k1 k2 kb1
   go_loopg [5,23] x.mz.length (λg v iv wr2=>∃(i:Nat) (cs:List Value),i+g=x.mz.length/\iv=J (i:Int)/\FaL W0 (w.heap.size+1) (ES X t j++GG X t j i) cs v wr2)
   case atStart=>exact⟨0,cs,by omega,rfl,by simpa [GG] using ae⟩
   case round=>
    clear hL ae a4;obtain⟨i,cs,hi,rfl,hL⟩:=hrel;rename_i N _;obtain⟨a,cap,e5,y,G⟩:=hL.form;subst e5;have a4:qY w wr:=ak.trans ⟨hL.bel.os,hL.bel.tape,hL.bel.output,hL.bel.size,λb hb=>hL.bel.block b Zo⟩;have a1:=hL.sz;by_cases hlt2:i<x.mz.length
    ·have an:(ES X t j++GG X t j i).length<=200:=by
      rw[List.length_append];have:=xiM (X:=X) (t:=t) h8 j;have:=xiQ (X:=X) (t:=t) j i;omega
     have kb1:=(hL.bel.block w.heap.size Zo).trans kb;obtain⟨⟨k0,k1,k2⟩,-⟩:=xsz kb1;have HI:=CH hi;obtain⟨fs,s⟩:∃fs,Hid (fs=ES X t j++GG X t j i):=⟨_,rfl⟩;rw[← s.out] at hL an y ⊢;go_upto_region 8 with (fail);have Y:∀w',qY wr w'->w'.cell? (O w.heap.size 0)=some (qS (some (O b1 o1)) X.cz.length cc)/\w'.cell? (O w.heap.size 1)=some (qS ah X.heap.length ch)/\w'.cell? (O w.heap.size 2)=some (J X.ez):=λw' hb=>⟨Bf hb k0,Bf hb k1,Bf hb k2⟩
     have a9:qY wr wr.drew:=(Br _ wr).drew;have a8:=Y _ a9;clear k0 k1 k2 kb1
     go_cut [8,9] (λpv ov wx=>PK wr (Hw X (j:Int) (i:Int) (Ed X t (j:Int) (i:Int))) pv ov wx)
     case first=>
      refine Fm (S:=λw'=>w'.cell? (O w.heap.size 0)=some (qS (some (O b1 o1)) X.cz.length cc)/\w'.cell? (O w.heap.size 1)=some (qS ah X.heap.length ch)/\w'.cell? (O w.heap.size 2)=some (J X.ez)) [] (by kernel_rfl) ?_;refine tj 0 (⟨some 27,.load 26 (.tmp 2),26,_,_,none⟩) (WV (qS (some (O b1 o1)) X.cz.length cc) (qS ah X.heap.length ch) X.ez) (a8) ?_ ?_
      ·rintro w⟨_,_,_⟩;go_simp
      try simp only[Act.put,Bj,Bl,Bk]
      refine tj 1 (⟨some 28,.move (.tmp 6),3,_,_,none⟩) (J (j:Int)) (a8) ?_ ?_
      ·rintro w⟨_,_,_⟩;go_simp
      try simp only[Act.put,Bj,Bl,Bk]
      refine tj 2 (⟨some 29,.move (.tmp 7),3,_,_,none⟩) (J (i:Int)) (a8) ?_ ?_
      ·rintro w⟨_,_,_⟩;go_simp
      try simp only[Act.put,Bj,Bl,Bk]
      refine tj 3 (⟨some 30,.load 26 (.tmp 2),26,_,_,none⟩) (WV (qS (some (O b1 o1)) X.cz.length cc) (qS ah X.heap.length ch) X.ez) (a8) ?_ ?_
      ·rintro w⟨_,_,_⟩;go_simp
      try simp only[Act.put,Bj,Bl,Bk]
      refine tj 4 (⟨some 31,.move (.tmp 1),28,_,_,none⟩) (qS q t.length ct) (a8) ?_ ?_
      ·rintro w⟨_,_,_⟩;go_simp
      try simp only[Act.put,Bj,Bl,Bk]
      refine tj 5 (⟨some 32,.move (.tmp 6),3,_,_,none⟩) (J (j:Int)) (a8) ?_ ?_
      ·rintro w⟨_,_,_⟩;go_simp
      try simp only[Act.put,Bj,Bl,Bk]
      refine tj 6 (⟨some 33,.move (.tmp 7),3,_,_,none⟩) (J (i:Int)) (a8) ?_ ?_
      ·rintro w⟨_,_,_⟩;go_simp
      try simp only[Act.put,Bj,Bl,Bk]
      refine DS (rs:=[7,12]) (by kernel_rfl) (by simp) ?_;intro i hi;simp only[Zm,Zn,or_false] at hi;rcases hi with hi | hi
      ·subst hi;refine Ck (o:=⟨some 34,.call ⟨.value (.func 115),#[.tmp 30,.tmp 31,.tmp 32,.tmp 33],#[26,28,3,3]⟩,47,_,_,none⟩) rfl (λK' hK=>?_);refine EX rfl 115 (.func 115) #[.tmp 30,.tmp 31,.tmp 32,.tmp 33] _ rfl #[] rfl #[WV (qS (some (O b1 o1)) X.cz.length cc) (qS ah X.heap.length ch) X.ez,qS q t.length ct,J (j:Int),J (i:Int)] (by simp[Act.eval,Act.put]) (xsl _ _) ?_;refine (show Calls Tryz.prog 115 #[WV (qS (some (O b1 o1)) X.cz.length cc) (qS ah X.heap.length ch) X.ez,qS q t.length ct,J (j:Int),J (i:Int)] wr.drew _ from (xjQ X t (j:Int) (i:Int) _ _ _ wr.drew (hC.later Bw (Bh a4 a9)) (hH.later BB (Bh a4 a9)) (hT.later xbD (Bh a4 a9))).mono ?_);rintro e w2 ⟨m,cs,rfl,r,l⟩;refine⟨_,rfl,?_⟩;have a6:qY wr w2:=Bh a9 l;refine hK _ _ (λ_=>?_) ?_
       ·exact Y _ a6
       clear hK K'
       try simp only[Act.put,Bj,Bl,Bk]
       refine DS (rs:=[8,12]) (by kernel_rfl) (by simp) ?_;intro i hi;simp only[Zm,Zn,or_false] at hi;rcases hi with hi | hi
       ·subst hi;refine Ck (o:=⟨some 35,.call ⟨.value (.func 114),#[.tmp 27,.tmp 28,.tmp 29,.tmp 34],#[26,3,3,47]⟩,188,_,_,none⟩) rfl (λK' hK=>?_);refine EX rfl 114 (.func 114) #[.tmp 27,.tmp 28,.tmp 29,.tmp 34] _ rfl #[] rfl #[WV (qS (some (O b1 o1)) X.cz.length cc) (qS ah X.heap.length ch) X.ez,J (j:Int),J (i:Int),qS m (Ed X t (j:Int) (i:Int)).length cs] (by simp[Act.eval,Act.put]) (xrk _ _) ?_;refine (show Calls Tryz.prog 114 #[WV (qS (some (O b1 o1)) X.cz.length cc) (qS ah X.heap.length ch) X.ez,J (j:Int),J (i:Int),qS m (Ed X t (j:Int) (i:Int)).length cs] w2 _ from (xeB X hX (j:Int) (i:Int) (Ed X t (j:Int) (i:Int)) _ _ _ w2 (hC.later Bw (Bh a4 a6)) (hH.later BB (Bh a4 a6)) r).mono ?_);rintro e w3 ⟨af,cf,rfl,d,c⟩;refine⟨_,rfl,?_⟩;have Z:qY wr w3:=Bh a6 c;refine hK _ _ (λ_=>?_) ?_
        ·exact Y _ Z
        clear hK K'
        try simp only[Act.put,Bj,Bl,Bk]
        obtain⟨R,HM⟩:∃R,Hid (R=Hw X (j:Int) (i:Int) (Ed X t (j:Int) (i:Int))):=⟨_,rfl⟩;simp only[← HM.out] at d ⊢;refine tj 9 (⟨some 26,.move (.tmp 35),188,_,_,none⟩) (.tuple #[FW R.1 (qS af R.1.code.length cf),.bool R.2]) (Y _ Z) ?_ ?_
        ·rintro w⟨_,_,_⟩;go_simp
        try simp only[Act.put,Bj,Bl,Bk]
        refine tj 10 (⟨some 36,.extract (.tmp 26) 0,187,_,_,none⟩) (FW R.1 (qS af R.1.code.length cf)) (Y _ Z) ?_ ?_
        ·rintro w⟨_,_,_⟩;go_simp
        try simp only[Act.put,Bj,Bl,Bk]
        refine tj 11 (⟨some 37,.extract (.tmp 26) 1,4,_,_,none⟩) (.bool R.2) (Y _ Z) ?_ ?_
        ·rintro w⟨_,_,_⟩;go_simp
        try simp only[Act.put,Bj,Bl,Bk]
        refine DS (rs:=[12]) (by kernel_rfl) (by simp) ?_;intro i hi;simp only[Zm,Zn,or_false] at hi;subst hi;refine Ck (o:=⟨some 8,.alloc 187,0,_,_,none⟩) rfl (λK' hK=>?_);go_simp;refine hK _ _ (λ_=>?_) ?_
        ·exact Y _ (Bh Z (Bg _ _))
        clear hK K'
        try simp only[Act.put,Bj,Bl,Bk]
        have a5:(w3.alloc (qI)).heap[w3.heap.size]?=some (qI):=BH _ _;have a2:qY wr (w3.alloc (qI)):=Bh Z (Bg _ _);have aa:w3.heap.size<(w3.alloc (qI)).heap.size:=by simp
        have a0:wr.heap.size<=w3.heap.size:=Z.size;have ad:qY w3 (w3.alloc (qI)):=Bg _ _;generalize w3.alloc (qI)=U at *;obtain⟨bf,k⟩:∃bf,Hid (bf=w3.heap.size):=⟨_,rfl⟩;rw[← k.out] at a5 aa a0 ⊢;obtain⟨r0,r1,r2,r3,r4⟩:=xo2 a5;have rf:=λo=>KC a5 o;have a7:Hid (PK wr R (qP bf) (.bool R.2) (Hp U bf (J R.1.cls) (qZ R.1.name) (J R.1.ez) (J R.1.temps) (qS af R.1.code.length cf))):=xn1 a2 a0 a5 (d.later BR ad) (λb hb=>⟨by have:=hb.1;have:=a6.size;omega,by have:=hb.2;have:=k.out;omega⟩);refine DS (rs:=[13]) (by kernel_rfl) (by simp) ?_;intro i hi;simp only[Zm,Zn,or_false] at hi;subst hi;refine Ck (o:=⟨none,.store 187 (.tmp 8) (.tmp 36),0,_,_,none⟩) rfl (λK' hK=>?_);go_simp;refine hK _ _ (λ_=>?_) ?_
        ·exact⟨Dk (Y _ a2).1 (by have:=a0;have:=a1;omega),Dk (Y _ a2).2.1 (by have:=a0;have:=a1;omega),Dk (Y _ a2).2.2 (by have:=a0;have:=a1;omega)⟩
        clear hK K'
        try simp only[Act.put,Bj,Bl,Bk]
        refine tj 14 (⟨some 9,.assign (.tmp 37),4,_,_,none⟩) (.bool R.2) (⟨Dk (Y _ a2).1 (by have:=a0;have:=a1;omega),Dk (Y _ a2).2.1 (by have:=a0;have:=a1;omega),Dk (Y _ a2).2.2 (by have:=a0;have:=a1;omega)⟩) ?_ ?_
        ·rintro w⟨_,_,_⟩;go_simp
        try simp only[Act.put,Bj,Bl,Bk]
        refine EZ (by kernel_rfl) ?_ _
        try simp only[Act.put,Bj,Bl,Bk]
        go_wp2_with fail;go_meet
        case rel=>rw[← HM.out];exact a7.out
       subst hi;refine Ck (o:=⟨some 8,.alloc 187,0,_,_,none⟩) rfl (λK' hK=>?_);go_simp;refine hK _ _ (λ_=>?_) ?_
       ·exact Y _ (Bh a6 (Bg _ _))
       clear hK K'
       try simp only[Act.put,Bj,Bl,Bk]
       have a5:(w2.alloc (qI)).heap[w2.heap.size]?=some (qI):=BH _ _;have a2:qY wr (w2.alloc (qI)):=Bh a6 (Bg _ _);have aa:w2.heap.size<(w2.alloc (qI)).heap.size:=by simp
       have a0:wr.heap.size<=w2.heap.size:=a6.size;have ad:qY w2 (w2.alloc (qI)):=Bg _ _;generalize w2.alloc (qI)=U at *;obtain⟨bf,k⟩:∃bf,Hid (bf=w2.heap.size):=⟨_,rfl⟩;rw[← k.out] at a5 aa a0 ⊢;refine DS (rs:=[8]) (by kernel_rfl) (by simp) ?_;intro i hi;simp only[Zm,Zn,or_false] at hi;subst hi;refine Ck (o:=⟨some 35,.call ⟨.value (.func 114),#[.tmp 27,.tmp 28,.tmp 29,.tmp 34],#[26,3,3,47]⟩,188,_,_,none⟩) rfl (λK' hK=>?_);refine EX rfl 114 (.func 114) #[.tmp 27,.tmp 28,.tmp 29,.tmp 34] _ rfl #[] rfl #[WV (qS (some (O b1 o1)) X.cz.length cc) (qS ah X.heap.length ch) X.ez,J (j:Int),J (i:Int),qS m (Ed X t (j:Int) (i:Int)).length cs] (by simp[Act.eval,Act.put]) (xrk _ _) ?_;refine (show Calls Tryz.prog 114 #[WV (qS (some (O b1 o1)) X.cz.length cc) (qS ah X.heap.length ch) X.ez,J (j:Int),J (i:Int),qS m (Ed X t (j:Int) (i:Int)).length cs] U _ from (xeB X hX (j:Int) (i:Int) (Ed X t (j:Int) (i:Int)) _ _ _ U (hC.later Bw (Bh a4 a2)) (hH.later BB (Bh a4 a2)) (r.later xrH ad)).mono ?_);rintro e w3 ⟨af,cf,rfl,d,c⟩;refine⟨_,rfl,?_⟩;have Z:qY wr w3:=Bh a2 c;refine hK _ _ (λ_=>?_) ?_
       ·exact Y _ Z
       clear hK K'
       try simp only[Act.put,Bj,Bl,Bk]
       obtain⟨R,HM⟩:∃R,Hid (R=Hw X (j:Int) (i:Int) (Ed X t (j:Int) (i:Int))):=⟨_,rfl⟩;simp only[← HM.out] at d ⊢;refine tj 9 (⟨some 26,.move (.tmp 35),188,_,_,none⟩) (.tuple #[FW R.1 (qS af R.1.code.length cf),.bool R.2]) (Y _ Z) ?_ ?_
       ·rintro w⟨_,_,_⟩;go_simp
       try simp only[Act.put,Bj,Bl,Bk]
       refine tj 10 (⟨some 36,.extract (.tmp 26) 0,187,_,_,none⟩) (FW R.1 (qS af R.1.code.length cf)) (Y _ Z) ?_ ?_
       ·rintro w⟨_,_,_⟩;go_simp
       try simp only[Act.put,Bj,Bl,Bk]
       refine tj 11 (⟨some 37,.extract (.tmp 26) 1,4,_,_,none⟩) (.bool R.2) (Y _ Z) ?_ ?_
       ·rintro w⟨_,_,_⟩;go_simp
       try simp only[Act.put,Bj,Bl,Bk]
       obtain⟨r0,r1,r2,r3,r4⟩:=xo2 (Bs a5 c);have rf:=λo=>KC (Bs a5 c) o;have a7:Hid (PK wr R (qP bf) (.bool R.2) (Hp w3 bf (J R.1.cls) (qZ R.1.name) (J R.1.ez) (J R.1.temps) (qS af R.1.code.length cf))):=xn1 Z a0 (Bs a5 c) d (λb hb=>⟨by have:=hb.1;have:=a2.size;omega,by have:=hb.1;omega⟩);refine DS (rs:=[13]) (by kernel_rfl) (by simp) ?_;intro i hi;simp only[Zm,Zn,or_false] at hi;subst hi;refine Ck (o:=⟨none,.store 187 (.tmp 8) (.tmp 36),0,_,_,none⟩) rfl (λK' hK=>?_);go_simp;refine hK _ _ (λ_=>?_) ?_
       ·exact⟨Dk (Y _ Z).1 (by have:=a0;have:=a1;omega),Dk (Y _ Z).2.1 (by have:=a0;have:=a1;omega),Dk (Y _ Z).2.2 (by have:=a0;have:=a1;omega)⟩
       clear hK K'
       try simp only[Act.put,Bj,Bl,Bk]
       refine tj 14 (⟨some 9,.assign (.tmp 37),4,_,_,none⟩) (.bool R.2) (⟨Dk (Y _ Z).1 (by have:=a0;have:=a1;omega),Dk (Y _ Z).2.1 (by have:=a0;have:=a1;omega),Dk (Y _ Z).2.2 (by have:=a0;have:=a1;omega)⟩) ?_ ?_
       ·rintro w⟨_,_,_⟩;go_simp
       try simp only[Act.put,Bj,Bl,Bk]
       refine EZ (by kernel_rfl) ?_ _
       try simp only[Act.put,Bj,Bl,Bk]
       go_wp2_with fail;go_meet
       case rel=>rw[← HM.out];exact a7.out
      subst hi;refine Ck (o:=⟨some 8,.alloc 187,0,_,_,none⟩) rfl (λK' hK=>?_);go_simp;refine hK _ _ (λ_=>?_) ?_
      ·exact Y _ (Bg wr (qI)).drew
      clear hK K'
      try simp only[Act.put,Bj,Bl,Bk]
      have a5:((wr.alloc (qI)).drew).heap[wr.heap.size]?=some (qI):=BH wr _;have a2:qY wr ((wr.alloc (qI)).drew):=(Bg wr _).drew;have aa:wr.heap.size<((wr.alloc (qI)).drew).heap.size:=by show wr.heap.size<(wr.alloc _).heap.size;simp
      generalize (wr.alloc (qI)).drew=U at *;obtain⟨bf,k⟩:∃bf,Hid (bf=wr.heap.size):=⟨_,rfl⟩;have a0:wr.heap.size<=bf:=by rw[k.out];exact Bq _
      rw[← k.out] at a5 aa ⊢;refine DS (rs:=[7]) (by kernel_rfl) (by simp) ?_;intro i hi;simp only[Zm,Zn,or_false] at hi;subst hi;refine Ck (o:=⟨some 34,.call ⟨.value (.func 115),#[.tmp 30,.tmp 31,.tmp 32,.tmp 33],#[26,28,3,3]⟩,47,_,_,none⟩) rfl (λK' hK=>?_);refine EX rfl 115 (.func 115) #[.tmp 30,.tmp 31,.tmp 32,.tmp 33] _ rfl #[] rfl #[WV (qS (some (O b1 o1)) X.cz.length cc) (qS ah X.heap.length ch) X.ez,qS q t.length ct,J (j:Int),J (i:Int)] (by simp[Act.eval,Act.put]) (xsl _ _) ?_;refine (show Calls Tryz.prog 115 #[WV (qS (some (O b1 o1)) X.cz.length cc) (qS ah X.heap.length ch) X.ez,qS q t.length ct,J (j:Int),J (i:Int)] U _ from (xjQ X t (j:Int) (i:Int) _ _ _ U (hC.later Bw (Bh a4 a2)) (hH.later BB (Bh a4 a2)) (hT.later xbD (Bh a4 a2))).mono ?_);rintro e w2 ⟨m,cs,rfl,r,l⟩;refine⟨_,rfl,?_⟩;have a6:qY wr w2:=Bh a2 l;refine hK _ _ (λ_=>?_) ?_
      ·exact Y _ a6
      clear hK K'
      try simp only[Act.put,Bj,Bl,Bk]
      refine DS (rs:=[8]) (by kernel_rfl) (by simp) ?_;intro i hi;simp only[Zm,Zn,or_false] at hi;subst hi;refine Ck (o:=⟨some 35,.call ⟨.value (.func 114),#[.tmp 27,.tmp 28,.tmp 29,.tmp 34],#[26,3,3,47]⟩,188,_,_,none⟩) rfl (λK' hK=>?_);refine EX rfl 114 (.func 114) #[.tmp 27,.tmp 28,.tmp 29,.tmp 34] _ rfl #[] rfl #[WV (qS (some (O b1 o1)) X.cz.length cc) (qS ah X.heap.length ch) X.ez,J (j:Int),J (i:Int),qS m (Ed X t (j:Int) (i:Int)).length cs] (by simp[Act.eval,Act.put]) (xrk _ _) ?_;refine (show Calls Tryz.prog 114 #[WV (qS (some (O b1 o1)) X.cz.length cc) (qS ah X.heap.length ch) X.ez,J (j:Int),J (i:Int),qS m (Ed X t (j:Int) (i:Int)).length cs] w2 _ from (xeB X hX (j:Int) (i:Int) (Ed X t (j:Int) (i:Int)) _ _ _ w2 (hC.later Bw (Bh a4 a6)) (hH.later BB (Bh a4 a6)) r).mono ?_);rintro e w3 ⟨af,cf,rfl,d,c⟩;refine⟨_,rfl,?_⟩;have Z:qY wr w3:=Bh a6 c;refine hK _ _ (λ_=>?_) ?_
      ·exact Y _ Z
      clear hK K'
      try simp only[Act.put,Bj,Bl,Bk]
      obtain⟨R,HM⟩:∃R,Hid (R=Hw X (j:Int) (i:Int) (Ed X t (j:Int) (i:Int))):=⟨_,rfl⟩;simp only[← HM.out] at d ⊢;refine tj 9 (⟨some 26,.move (.tmp 35),188,_,_,none⟩) (.tuple #[FW R.1 (qS af R.1.code.length cf),.bool R.2]) (Y _ Z) ?_ ?_
      ·rintro w⟨_,_,_⟩;go_simp
      try simp only[Act.put,Bj,Bl,Bk]
      refine tj 10 (⟨some 36,.extract (.tmp 26) 0,187,_,_,none⟩) (FW R.1 (qS af R.1.code.length cf)) (Y _ Z) ?_ ?_
      ·rintro w⟨_,_,_⟩;go_simp
      try simp only[Act.put,Bj,Bl,Bk]
      refine tj 11 (⟨some 37,.extract (.tmp 26) 1,4,_,_,none⟩) (.bool R.2) (Y _ Z) ?_ ?_
      ·rintro w⟨_,_,_⟩;go_simp
      try simp only[Act.put,Bj,Bl,Bk]
      obtain⟨r0,r1,r2,r3,r4⟩:=xo2 (Bs a5 (Bh l c));have rf:=λo=>KC (Bs a5 (Bh l c)) o;have a7:Hid (PK wr R (qP bf) (.bool R.2) (Hp w3 bf (J R.1.cls) (qZ R.1.name) (J R.1.ez) (J R.1.temps) (qS af R.1.code.length cf))):=xn1 Z a0 (Bs a5 (Bh l c)) d (λb hb=>⟨by have:=hb.1;have:=a6.size;omega,by have:=hb.1;have:=l.size;omega⟩);refine DS (rs:=[13]) (by kernel_rfl) (by simp) ?_;intro i hi;simp only[Zm,Zn,or_false] at hi;subst hi;refine Ck (o:=⟨none,.store 187 (.tmp 8) (.tmp 36),0,_,_,none⟩) rfl (λK' hK=>?_);go_simp;refine hK _ _ (λ_=>?_) ?_
      ·exact⟨Dk (Y _ Z).1 (by have:=a0;have:=a1;omega),Dk (Y _ Z).2.1 (by have:=a0;have:=a1;omega),Dk (Y _ Z).2.2 (by have:=a0;have:=a1;omega)⟩
      clear hK K'
      try simp only[Act.put,Bj,Bl,Bk]
      refine tj 14 (⟨some 9,.assign (.tmp 37),4,_,_,none⟩) (.bool R.2) (⟨Dk (Y _ Z).1 (by have:=a0;have:=a1;omega),Dk (Y _ Z).2.1 (by have:=a0;have:=a1;omega),Dk (Y _ Z).2.2 (by have:=a0;have:=a1;omega)⟩) ?_ ?_
      ·rintro w⟨_,_,_⟩;go_simp
      try simp only[Act.put,Bj,Bl,Bk]
      refine EZ (by kernel_rfl) ?_ _
      try simp only[Act.put,Bj,Bl,Bk]
      go_wp2_with fail;go_meet
      case rel=>rw[← HM.out];exact a7.out
     case rest=>
      obtain⟨R,HM⟩:∃R,Hid (Hw X (j:Int) (i:Int) (Ed X t (j:Int) (i:Int))=R):=⟨_,rfl⟩;rw[HM.out] at hcut;obtain⟨f,ok⟩:=R;obtain⟨bf,af,cf,rfl,rfl,B,F,z⟩:=hcut;dsimp only at B z ⊢;have ab:=hL.later F;have ai:=ab.sz;have al:=λg hg=>(hL.own.lt g hg).2
      cases ok with
      | false=>
       have HE:Hid (fs=ES X t j++GG X t j (i+1)):=by show _=_;rw[s.out,xg3,xrl HM.out];simp
       go_wp2;go_roundg (x.mz.length-(i+1))
       case measure=>omega
       case rel=>exact⟨i+1,cs,by omega,by go_num,by rw[← HE.out];exact ab⟩
      | true=>
       have HE:Hid (fs++[f]=ES X t j++GG X t j (i+1)):=by show _=_;rw[s.out,xg3,xpA HM.out,List.append_assoc]
       obtain⟨r0,r1,r2,r3,r4⟩:=xo2 B;go_wp2_with (at_builtin;refine Pv rfl (.tmp 39) (.tmp 41) 157 187 _ 5 64 rfl Tryz.underlying157 xqP rfl Zo (w.heap.size+1) fs.length (qS a fs.length cap) cs rfl (ab.own.alloc _) wc.heap.size rfl [J f.cls,qZ f.name,J f.ez,J f.temps,qS af f.code.length cf] rfl (BH _ _) (by intro u hu;simp only[Zm,Zn,or_false] at hu;rcases hu with h | h | h | h | h<;>(subst h;rfl)) (by unfold maxLen;omega) Zo (BX ai (by simp)) ?_;intro a3 K w3 s1 s2 s3 s4;have hN:=CH ((ab.later (Bg wc (qC #[J f.cls,qZ f.name,J f.ez,J f.temps,qS af f.code.length cf] 187))).add (f:=f) (kv:=qS af f.code.length cf) (L:=wr.heap.size) (z.later BR (Bg wc _)) (λb hb=>hb) a1 al s1 s2 s3 s4);clear s1 s2 s3 s4);go_roundg (x.mz.length-(i+1))
       case measure=>omega
       case rel=>exact⟨i+1,_,by omega,by go_num,by rw[← HE.out];exact hN.out⟩
    obtain rfl:i=x.mz.length:=by omega
    have HE:Hid (ES X t j++GG X t j x.mz.length=ES X t (j+1)):=by show _=_;rw[xkg,aj.out]
    rw[HE.out] at hL ⊢;go_wp2;go_roundg (X.cz.length-(j+1))
    case measure=>have:=HJ.out;omega
    case rel=>exact⟨j+1,cs,by omega,by go_num,hL⟩
  obtain rfl:j=X.cz.length:=by omega
  have hF:=hL.fasts (by have:=xiM (X:=X) (t:=t) h8 X.cz.length;omega);have HQ:=CH (hF.mono Ly (Q:=λb=>w.heap.size<=b) λb hb=>by omega);go_wp2;go_ret;exact⟨a,cap,rfl,HQ.out,a4⟩
def GdB (y:QI):Prop:=y.op=18->0<=y.b/\y.b<=1000
theorem xoJ {X:QW}(h:BM X=0){sites:List Int}{m:QM}(i:Sml m):∀ {k:Nat},k<=m.code.length->∀y∈(Bv X.cz sites m k).code,GdB y
 | 0,_,y,a=>by simp[Bv] at a
 | k+1,hk,y,a=>by
  have ih:=xoJ h i (sites:=sites) (k:=k) (by omega);have n:m.code[k]?=some m.code[k]:=List.getElem?_eq_getElem (by omega);have c:m.code[k]∈m.code:=List.getElem_mem _;rw[Kb n] at a;generalize Bv X.cz sites m k=s at *;generalize m.code[k]=x at *;obtain⟨p1,p2,-⟩:=i.plain x c;unfold FJ at a
  cases b:DK X.cz sites m.code.length s.code.length s.temps k x with
  | none=>
   rw[b] at a;have f:(CS x (k:Int)).op=x.op:=by unfold CS;split<;>rfl
   rcases List.mem_append.1 a with h' | h'
   ·exact ih y h'
   rw[List.mem_singleton] at h';subst h';intro o;rw[f] at o;omega
  | some leaf=>
   rw[b] at a
   have d:Et X.cz sites k x=some leaf:=by
    unfold DK at b;split at b
    ·cases b
    rename_i l j;split at b
    ·cases b;exact j
    cases b
   obtain⟨g,-⟩:=LQ h d;rcases List.mem_append.1 a with h' | h'
   ·exact ih y h'
   rcases xhS g (BQ 18 (sites.getD k (-1)) leaf.args k) s.temps s.code.length (by omega) y h' with rfl | ⟨g1,-⟩
   ·intro _;have:=g.args;exact⟨this.1,by show leaf.args<=1000;omega⟩
   intro e;exact absurd e g1
theorem xr6 {begins:List Int}{plain code:List QI}(h:∀y∈code,GdB y):∀k,∀y∈Dx begins plain code k,GdB y
 | 0,y,a=>h y a
 | k+1,y,a=>by
  have ih:=xr6 h (begins:=begins) (plain:=plain) k;unfold Dx at a;split at a
  ·split at a
   ·rcases xh3 a with h' | ⟨z,b,rfl⟩
    ·exact ih y h'
    exact λe=>ih z (List.mem_of_getElem? b) e
   exact ih y a
  exact ih y a
theorem xpR {X:QW}(e:BM X=0){f:Fst}(h:KQ X f):f.code.length<=500/\∀x∈f.code,x.op=18->0<=x.b/\x.b<=1000:=by
 obtain⟨c,k,mt,sites,j,a⟩:=h;have g:=Qh e j;have d:(En X c mt sites).2=true:=by rw[a]
 have i:=(xnK e g d).1;rw[a] at i;refine⟨by simp only at i;omega,?_⟩;have l:=xoJ e g (sites:=sites) (Bq mt.code.length);unfold En at a;simp only at a;split at a
 ·cases a
 cases a;exact λx m=>xr6 l _ x m
theorem xrB {X:QW}(b:BM X=0){t:List QT}{n:Nat}:FewF (ES X t n):=⟨λf a=>xpR b (xlD f a)⟩
end Go.Proofs.YtbafokihegegiaaGreatDoor
