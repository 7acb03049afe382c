import Derived.Test.YtbafokihegegiaaGreatDoorU12
namespace Go.Proofs.YtbafokihegegiaaGreatDoor
open ChangeShapes WideShapes ChangeAt RowKit
set_option linter.unusedSimpArgs false
set_option linter.unusedVariables false
set_option maxHeartbeats 8000000
set_option maxRecDepth 8000
theorem xiX:∀(ps:List Int) (m:Int),(∀p∈ps,0<=p)->0<=m->Fy m ps=decide (ps.sum<=m)
 | [],m,_,hm=>by simp[Fy,hm]
 | p :: r,m,h,hm=>by
  have f:=h p (by simp);have d:∀q∈r,0<=q:=λq b=>h q (by simp[b])
  have e:∀l:List Int,(∀q∈l,0<=q)->0<=l.sum:=by
   intro l
   induction l with
   | nil=>intro _;simp
   | cons a l ih=>intro c;have:=ih λq b=>c q (by simp[b]);have:=c a (by simp);simp;omega
  have g:=e r d;unfold Fy;by_cases hc:m<p
  ·rw[if_pos (Or.inr hc)];have:¬ (p :: r).sum<=m:=by simp;omega
   simp only[this,decide_false]
  rw[if_neg (by omega),xiX r (m-p) d (by omega)];have:(r.sum<=m-p) ↔ ((p :: r).sum<=m):=by simp;omega
  simp only[this]
theorem xj5 (w:qW)(ps:List Int)(t:TypeId)(b:ps.length<=1000):LH (λ_=>True) (w.alloc (.cells (ps.map (Value.int .i64)).toArray t)) (qG w.heap.size ps.length ps.length) ps:=by
 refine⟨_,_,rfl,Bq _,by unfold maxLen;omega,by omega,λi x a=>⟨w.heap.size,0,rfl,trivial,?_⟩⟩;show World.cell? _ (O w.heap.size (0+i*1+0))=_;rw[Bp _ _ _ _ rfl];simp[a]
theorem xk5 (f:Fst)(a:Option Addr)(n cap:Nat)(b:QM)(ka:Option Addr)(kc:Nat)(w:qW)(o:0<=b.args/\b.args<=4)(k:0<=b.temps/\b.temps<=6)(d:0<=f.temps/\f.temps<=100)(m:n<=300)(c:b.code.length<=60) :
  Calls Tryz.prog 153 #[FW f (qS a n cap),MV b (qS ka b.code.length kc)] w λe w'=>e=.returned (MH f.temps (f.temps+1) (f.temps+1+b.args) (Fh b n) (Fh b n+b.code.length))/\qY w w':=by
 have g:IntKind.i64.wrap (f.temps+1)=f.temps+1:=CM Zo Zo;have l:IntKind.i64.wrap (f.temps+1+b.args)=f.temps+1+b.args:=CM Zo Zo;have q:IntKind.i64.wrap ((n:Int)+3)=(n:Int)+3:=CM Zo Zo;have h:IntKind.i64.wrap ((n:Int)+3+b.args)=(n:Int)+3+b.args:=CM Zo Zo;have j:IntKind.i64.wrap (2*b.temps)=2*b.temps:=CM Zo Zo;have i:IntKind.i64.wrap ((n:Int)+3+b.args+2*b.temps)=(n:Int)+3+b.args+2*b.temps:=CM Zo Zo;have p:IntKind.i64.wrap ((n:Int)+3+b.args+2*b.temps+(b.code.length:Int))=(n:Int)+3+b.args+2*b.temps+(b.code.length:Int):=CM Zo Zo;go_enter Tryz.func153,Tryz.ntmps153;go_wp2;refine Bt (v:=MH f.temps (f.temps+1) (f.temps+1+b.args) (Fh b n) (Fh b n+b.code.length)) ?_ rfl ⟨rfl,?_⟩
 ·simp[results,Tryz.results153,go_sem,Fh]
 exact DW _ _ _ _
theorem xq2 (n:Nat)(b:Int)(a:QM)(left:Int)(g:0<=a.args/\a.args<=4)(f:0<=a.temps/\a.temps<=6)(d:0<=b)(e:0<=left):Kz n b a left=(Fy 240 [(n:Int),3,a.args,a.temps,a.temps,(a.code.length:Int),left] && Fy 40 [b,1,a.args,a.temps]):=by
 rw[xiX _ _ (by intro p c;simp at c;rcases c with rfl | rfl | rfl | rfl | rfl | rfl<;>omega) (by omega),xiX _ _ (by intro p c;simp at c;rcases c with rfl | rfl | rfl | rfl<;>omega) (by omega)];unfold Kz;rw[Bool.eq_iff_iff];simp;omega
theorem xko (f:Fst)(a:Option Addr)(n cap:Nat)(b:QM)(ka:Option Addr)(kc:Nat)(left:Int)(w:qW)(q:0<=b.args/\b.args<=4)(p:0<=b.temps/\b.temps<=6)(l:0<=f.temps)(o:0<=left) :
  Calls Tryz.prog 150 #[FW f (qS a n cap),MV b (qS ka b.code.length kc),J left] w λe w'=>e=.returned (.bool (Kz n f.temps b left))/\qY w w':=by
 have h:=CH (xq2 n f.temps b left q p l o);have d:=BG w (qC #[J f.cls,qZ f.name,J f.ez,J f.temps,qS a n cap] 187) (qD b ka kc);have c0:((w.alloc (qC #[J f.cls,qZ f.name,J f.ez,J f.temps,qS a n cap] 187)).alloc (qD b ka kc)).cell? (O w.heap.size 4)=some (qS a n cap):=Bf (Bg _ _) (Bp w #[J f.cls,qZ f.name,J f.ez,J f.temps,qS a n cap] 187 _ rfl 4);have c3:((w.alloc (qC #[J f.cls,qZ f.name,J f.ez,J f.temps,qS a n cap] 187)).alloc (qD b ka kc)).cell? (O w.heap.size 3)=some (J f.temps):=Bf (Bg _ _) (Bp w #[J f.cls,qZ f.name,J f.ez,J f.temps,qS a n cap] 187 _ rfl 3);have l1:((w.alloc (qC #[J f.cls,qZ f.name,J f.ez,J f.temps,qS a n cap] 187)).alloc (qD b ka kc)).cell? (O (w.heap.size+1) 1)=some (J b.args):=Bp _ _ _ _ (by simp) 1;have l2:((w.alloc (qC #[J f.cls,qZ f.name,J f.ez,J f.temps,qS a n cap] 187)).alloc (qD b ka kc)).cell? (O (w.heap.size+1) 2)=some (J b.temps):=Bp _ _ _ _ (by simp) 2;have l4:((w.alloc (qC #[J f.cls,qZ f.name,J f.ez,J f.temps,qS a n cap] 187)).alloc (qD b ka kc)).cell? (O (w.heap.size+1) 4)=some (qS ka b.code.length kc):=Bp _ _ _ _ (by simp) 4;go_enter Tryz.func150,Tryz.ntmps150;go_upto_region 1 with (fail)
 generalize ((w.alloc (qC #[J f.cls,qZ f.name,J f.ez,J f.temps,qS a n cap] 187)).alloc (qD b ka kc))=W at *;go_wp2_with fail;refine (xlC [(n:Int),3,b.args,b.temps,b.temps,(b.code.length:Int),left] _ 240 _ (by omega) (xj5 W [(n:Int),3,b.args,b.temps,b.temps,(b.code.length:Int),left] 3 (by simp))).mono ?_;rintro e w1 ⟨rfl,rfl⟩;have c:=Bg W (qC #[J (n:Int),J 3,J b.args,J b.temps,J b.temps,J (b.code.length:Int),J left] 3);by_cases h1:Fy 240 [(n:Int),3,b.args,b.temps,b.temps,(b.code.length:Int),left]=true
 ·have i:Hid (Kz n f.temps b left=Fy 40 [f.temps,1,b.args,b.temps]):=by show _=_;rw[h.out,h1];rfl
  rw[h1];have d3:=Bf c c3;have e1:=Bf c l1;have e2:=Bf c l2;have j:=CH (Bh d c);clear h1 c0 c3 l1 l2 l4 d;generalize m:W.alloc _=W1 at *;go_wp2_with fail;refine (xlC [f.temps,1,b.args,b.temps] _ 40 _ (by omega) (xj5 W1 [f.temps,1,b.args,b.temps] 3 (by simp))).mono ?_;rintro e w2 ⟨rfl,rfl⟩;have k:=CH (Bh j.out (Bg W1 (.cells ([f.temps,1,b.args,b.temps].map (Value.int .i64)).toArray 3)));go_wp2;go_ret;exact⟨Cq i.out.symm,k.out⟩
 have g:Fy 240 [(n:Int),3,b.args,b.temps,b.temps,(b.code.length:Int),left]=false:=by simpa using h1
 have i:Hid (Kz n f.temps b left=false):=by show _=_;rw[h.out,g];rfl
 rw[g];have j:=CH (Bh d c);clear h1 g;go_wp2;go_ret;exact⟨Cq i.out.symm,j.out⟩
def LfPost (w:qW)(st:Option QM)(e:Ending)(w':qW):Prop:=
 ∃m a c,e=.returned (.tuple #[MV m (qS a m.code.length c),.bool st.isSome])/\(∀m',st=some m'->m=m')/\Cm (λb=>b<w.heap.size) w' (qS a m.code.length c) m.code/\qY w w'
theorem LfPost.drew {w w':qW}{st:Option QM}{e:Ending}(h:LfPost w st e w'):LfPost w st e w'.drew:=by
 obtain⟨m,a,c,d,f,b,g⟩:=h;exact⟨m,a,c,d,f,b.later BR (Br _ _).drew,g.drew⟩
theorem xor {w U:qW}{st:Option QM}{m:QM}{a:Option Addr}{c:Nat}{b:Bool}(d:st=if b then some m else none)(f:qY w U)(e:Cm (λb=>b<w.heap.size) U (qS a m.code.length c) m.code):LfPost w st (.returned (.tuple #[MV m (qS a m.code.length c),.bool b])) (Hp U (w.heap.size+2) (qZ m.name) (J m.args) (J m.temps) (J m.prim) (qS a m.code.length c)):=by
 refine⟨m,a,c,?_,?_,e.keep BR (Keeps.of_block λb f _=>xsN (by omega)) λ_ h=>h,xsA f (by omega)⟩
 ·cases b<;>simp[d]
 ·intro m' h;rw[d] at h
  cases b
  ·cases h
  cases h;rfl
abbrev MC:QM:=⟨⟨#[]⟩,0,0,0,[]⟩
theorem xqB {w U:qW}(d:qY w U):LfPost w none (.returned (.tuple #[MV MC (qN),.bool false])) (Hp U (w.heap.size+2) (qZ ⟨#[]⟩) (J 0) (J 0) (J 0) (qN)):=
 xor (m:=MC) (a:=none) (c:=0) (b:=false) rfl d GZ
structure LfB (w:qW)(cv hv:Value)(ep:Int)(x:QI)(w':qW):Prop where
 w0:w'.cell? (O w.heap.size 0)=some cv
 w1:w'.cell? (O w.heap.size 1)=some hv
 w2:w'.cell? (O w.heap.size 2)=some (J ep)
 x0:w'.cell? (O (w.heap.size+1) 0)=some (J x.op)
 x1:w'.cell? (O (w.heap.size+1) 1)=some (J x.a)
 x4:w'.cell? (O (w.heap.size+1) 4)=some (qZ x.name)
 z0:w'.cell? (O (w.heap.size+2) 0)=some (qZ ⟨#[]⟩)
 z1:w'.cell? (O (w.heap.size+2) 1)=some (J 0)
 z2:w'.cell? (O (w.heap.size+2) 2)=some (J 0)
 z3:w'.cell? (O (w.heap.size+2) 3)=some (J 0)
 z4:w'.cell? (O (w.heap.size+2) 4)=some (qN)
 zf:∀o,w'.frozen? (O (w.heap.size+2) o)=false
 sz:w.heap.size+3<=w'.heap.size
theorem LfB.later {w:qW}{cv hv:Value}{ep:Int}{x:QI}{w' w'':qW}(h:LfB w cv hv ep x w')(a:qY w' w''):LfB w cv hv ep x w'':=
 ⟨Bf a h.w0,Bf a h.w1,Bf a h.w2,Bf a h.x0,Bf a h.x1,Bf a h.x4,Bf a h.z0,Bf a h.z1,Bf a h.z2,Bf a h.z3,Bf a h.z4,λo=>(a.frozen (p:=(O (w.heap.size+2) o)) (by have:=h.sz;simp only;omega)).trans (h.zf o),BX h.sz a.size⟩
theorem xrX (w:qW)(cv hv:Value)(ep:Int)(x:QI):LfB w cv hv ep x (((w.alloc (qC #[cv,hv,J ep] 26)).alloc (qE x)).alloc (qC #[qZ ⟨#[]⟩,J 0,J 0,J 0,qN] 51)):=by
 have e1:(w.alloc (qC #[cv,hv,J ep] 26)).heap.size=w.heap.size+1:=by simp
 have e2:((w.alloc (qC #[cv,hv,J ep] 26)).alloc (qE x)).heap.size=w.heap.size+2:=by simp
 exact⟨Bf (BG _ _ _) (Bp w #[cv,hv,J ep] 26 _ rfl 0),Bf (BG _ _ _) (Bp w #[cv,hv,J ep] 26 _ rfl 1),Bf (BG _ _ _) (Bp w #[cv,hv,J ep] 26 _ rfl 2),Bf (Bg _ _) (Bp _ _ _ _ e1 0),Bf (Bg _ _) (Bp _ _ _ _ e1 1),Bf (Bg _ _) (Bp _ _ _ _ e1 4),Bp _ _ _ _ e2 0,Bp _ _ _ _ e2 1,Bp _ _ _ _ e2 2,Bp _ _ _ _ e2 3,Bp _ _ _ _ e2 4,KC (cur:=#[qZ ⟨#[]⟩,J 0,J 0,J 0,qN]) (t:=51) (by rw[← e2];exact BH _ _),by simp⟩
theorem xmD {P Q:Nat->Prop}(X:QW)(sites:List Int)(at':Nat)(x:QI)(cv hv sv:Value)(w:qW)(hC:BK P w cv X.cz)(hH:BP P w hv X.heap)(hS:LH Q w sv sites) :
  Calls Tryz.prog 149 #[WV cv hv X.ez,sv,J (at':Int),IV x] w λe w'=>LfPost w (Et X.cz sites at' x) e w':=by
 obtain⟨ac,cc,rfl,-,q,-,d⟩:=id (xev hC);obtain⟨ah,ch,rfl,-⟩:=id hH;obtain⟨t,cs,rfl,y,p,-,f⟩:=id hS;unfold maxLen at p q;have K:=xrX w (qS ac X.cz.length cc) (qS ah X.heap.length ch) X.ez x;have H:=DW w (qA ac cc ah ch X) (qE x) (qC #[qZ ⟨#[]⟩,J 0,J 0,J 0,qN] 51);go_enter Tryz.func149,Tryz.ntmps149;go_upto_region 1 with (fail);simp only[Nat.add_assoc,Nat.reduceAdd];generalize (((w.alloc (qA ac cc ah ch X)).alloc (qE x)).alloc (qC #[qZ ⟨#[]⟩,J 0,J 0,J 0,qN] 51))=W at *;have HN:Hid (∀U,qY w U->Et X.cz sites at' x=none->LfPost w (Et X.cz sites at' x) (.returned (.tuple #[MV MC (qN),.bool false])) (Hp U (w.heap.size+2) (qZ ⟨#[]⟩) (J 0) (J 0) (J 0) (qN))):=λU T h=>by rw[h];exact xqB T
 obtain⟨k0,k1,k2,x0,x1,x4,z0,z1,z2,z3,z4,zf,sz⟩:=id K;by_cases hop:x.op=14
 ·have hd:(x.op == 14)=true:=by simpa using hop
  have a5:(x.op != 14)=false:=by simpa using hop
  have a8:=CH hop;rw[hop] at x0;clear hop hd a5;by_cases hlt:at'<sites.length
  ·obtain⟨k,hk⟩:∃k,sites[at']?=some k:=⟨sites[at'],by simp[hlt]⟩
   have HK:Hid (sites.getD at' (-1)=k):=by show _=_;rw[List.getD_eq_getElem?_getD,hk];rfl
   obtain⟨bs,os,rfl,-,y0⟩:=f at' k hk;replace y0:w.cell? (O bs (os+at'))=some (J k):=by simpa [Md] using y0
   have y1:=Bf H y0;have ag:(at':Int)<(sites.length:Int):=by omega
   have ai:(0:Int)<=(at':Int):=by omega
   have a9:¬ ((sites.length:Int)<=(at':Int)):=by omega
   clear f hk;by_cases hk0:k<0
   ·have a7:decide (k<0)=true:=by simpa using hk0
    have Y:=CH (HN.out W H (by unfold Et;rw[if_neg (by rw[HK.out];omega)]));clear hk0;go_wp2;refine Bt (v:=.tuple #[MV MC (qN),.bool false]) ?_ rfl Y.out;simp[results,Tryz.results149,go_sem,z0,z1,z2,z3,z4]
   have a7:decide (k<0)=false:=by simpa using hk0
   have aa:=CH hk0
   have C:∀w',qY W w'->w'.cell? (O w.heap.size 0)=some (qS ac X.cz.length cc)/\w'.cell? (O w.heap.size 1)=some (qS ah X.heap.length ch)/\w'.cell? (O w.heap.size 2)=some (J X.ez)/\w'.cell? (O bs (os+at'))=some (J k)/\w'.cell? (O (w.heap.size+1) 4)=some (qZ x.name):=λw' T=>by
    have h:=K.later T;exact⟨h.w0,h.w1,h.w2,Bf T y1,h.x4⟩
   have G:=C _ (Br _ W).drew;clear hk0;go_upto_region 3 with (fail);refine Fm (S:=λw'=>w'.cell? (O w.heap.size 0)=some (qS ac X.cz.length cc)/\w'.cell? (O w.heap.size 1)=some (qS ah X.heap.length ch)/\w'.cell? (O w.heap.size 2)=some (J X.ez)/\w'.cell? (O bs (os+at'))=some (J k)/\w'.cell? (O (w.heap.size+1) 4)=some (qZ x.name)) [] (by kernel_rfl) ?_;refine tj 0 (⟨some 31,.load 26 (.tmp 4),26,_,_,none⟩) (qV ac cc ah ch X) (G) ?_ ?_
   ·rintro w⟨_,_,_,_,_⟩;go_simp
   try simp only[Act.put,Bj,Bl,Bk]
   refine tj 1 (⟨some 32,.move (.tmp 1),47,_,_,none⟩) (qS (some (O bs os)) sites.length cs) (G) ?_ ?_
   ·rintro w⟨_,_,_,_,_⟩;go_simp
   try simp only[Act.put,Bj,Bl,Bk]
   refine tj 2 (⟨some 33,.move (.tmp 2),3,_,_,none⟩) (J (at':Int)) (G) ?_ ?_
   ·rintro w⟨_,_,_,_,_⟩;go_simp
   try simp only[Act.put,Bj,Bl,Bk]
   refine tj 3 (⟨some 34,.indexAddr 47 (.tmp 32) (.tmp 33),0,_,_,none⟩) (.pointer (some (O bs (os+at')))) (G) ?_ ?_
   ·rintro w⟨_,_,_,_,_⟩;go_simp
   try simp only[Act.put,Bj,Bl,Bk]
   refine tj 4 (⟨some 35,.load 3 (.tmp 34),3,_,_,none⟩) (J k) (G) ?_ ?_
   ·rintro w⟨_,_,_,_,_⟩;go_simp
   try simp only[Act.put,Bj,Bl,Bk]
   refine tj 5 (⟨some 36,.fieldAddr 69 (.tmp 7) 4,0,_,_,none⟩) (.pointer (some (O (w.heap.size+1) 4))) (G) ?_ ?_
   ·rintro w⟨_,_,_,_,_⟩;go_simp
   try simp only[Act.put,Bj,Bl,Bk]
   refine tj 6 (⟨some 37,.load 9 (.tmp 36),9,_,_,none⟩) (qZ x.name) (G) ?_ ?_
   ·rintro w⟨_,_,_,_,_⟩;go_simp
   try simp only[Act.put,Bj,Bl,Bk]
   refine DS (rs:=[7]) (by kernel_rfl) (by simp) ?_;intro i N;simp only[Zm,Zn,or_false] at N;subst N;refine Ck (o:=⟨some 38,.call ⟨.value (.func 142),#[.tmp 31,.tmp 35,.tmp 37],#[26,3,9]⟩,132,_,_,none⟩) rfl (λK' M=>?_);refine EX rfl 142 (.func 142) #[.tmp 31,.tmp 35,.tmp 37] _ rfl #[] rfl #[qV ac cc ah ch X,J k,qZ x.name] (by simp[Act.eval,Act.put]) (cf45 _ _) ?_;refine (show Calls Tryz.prog 142 #[qV ac cc ah ch X,J k,qZ x.name] W.drew _ from (Mb X k x.name _ _ W.drew (hC.later Bw H.drew) (hH.later BB H.drew)).mono ?_);rintro e w1 ⟨rfl,l⟩;refine⟨_,rfl,?_⟩;have D:qY W w1:=Bh (Br _ W).drew l;refine M _ _ (λ_=>?_) ?_
   ·exact C _ D
   clear M K'
   try simp only[Act.put,Bj,Bl,Bk]
   obtain⟨fc,fj,hf⟩:∃fc fj,BF X.cz k x.name=(fc,fj):=⟨_,_,rfl⟩;simp only[hf];refine tj 8 (⟨some 30,.move (.tmp 38),132,_,_,none⟩) (.tuple #[J fc,J fj]) (C _ D) ?_ ?_
   ·rintro w⟨_,_,_,_,_⟩;go_simp
   try simp only[Act.put,Bj,Bl,Bk]
   refine tj 9 (⟨some 39,.extract (.tmp 30) 0,3,_,_,none⟩) (J fc) (C _ D) ?_ ?_
   ·rintro w⟨_,_,_,_,_⟩;go_simp
   try simp only[Act.put,Bj,Bl,Bk]
   refine tj 10 (⟨some 40,.extract (.tmp 30) 1,3,_,_,none⟩) (J fj) (C _ D) ?_ ?_
   ·rintro w⟨_,_,_,_,_⟩;go_simp
   try simp only[Act.put,Bj,Bl,Bk]
   refine tj 11 (⟨some 10,.assign (.tmp 39),3,_,_,none⟩) (J fc) (C _ D) ?_ ?_
   ·rintro w⟨_,_,_,_,_⟩;go_simp
   try simp only[Act.put,Bj,Bl,Bk]
   refine tj 12 (⟨some 11,.assign (.tmp 40),3,_,_,none⟩) (J fj) (C _ D) ?_ ?_
   ·rintro w⟨_,_,_,_,_⟩;go_simp
   try simp only[Act.put,Bj,Bl,Bk]
   refine EZ (by kernel_rfl) ?_ _
   try simp only[Act.put,Bj,Bl,Bk]
   have B:qY w w1:=Bh H D;replace K:=K.later D;clear k0 k1 k2 x0 x1 x4 z0 z1 z2 z3 z4 zf sz C G l y0 y1;obtain⟨k0,k1,k2,x0,x1,x4,z0,z1,z2,z3,z4,zf,sz⟩:=id K;have a4:Hid (Et X.cz sites at' x=match Lh X.cz k x.name with | none=>none | some m=>if m.args=x.a/\FH m=true then some m else none):=by show _=_;unfold Et;rw[HK.out,if_pos ⟨a8.out,by have:=aa.out;omega⟩];cases Lh X.cz k x.name<;>rfl
   rcases xfs X.cz k x.name with ⟨h1,h2⟩ | ⟨qc,xc,tc,m,he,R,hm⟩
   ·rw[hf] at h1 h2;simp only at h1 h2;have af:decide (fc<0)=true:=by simpa using h1
    have Y:=CH (HN.out w1 B (by rw[a4.out];unfold Lh;rw[hf,if_pos h2]));clear h1 h2;go_wp2;refine Bt (v:=.tuple #[MV MC (qN),.bool false]) ?_ rfl Y.out;simp[results,Tryz.results149,go_sem,z0,z1,z2,z3,z4]
   have a3:Hid (Et X.cz sites at' x=if m.args=x.a/\FH m=true then some m else none):=by
    show _=_;rw[a4.out];have:Lh X.cz k x.name=some m:=by unfold Lh;rw[he];simp[R,hm]
    rw[this]
   rw[hf] at he;obtain⟨rfl,rfl⟩:fc=(qc:Int)/\fj=(tc:Int):=by cases he;exact⟨rfl,rfl⟩
   obtain⟨b1,o1,rfl,-,-,-,-,-,mv,u3,r⟩:=d qc xc R;obtain⟨am,cm,rfl,u,s,-,j⟩:=r;obtain⟨b2,o2,rfl,-,v0,v1,v2,v3,-,kv,v4,g⟩:=j tc m hm;obtain⟨ak,ck,rfl,-⟩:=id g;simp only[Nat.add_zero] at v0;unfold maxLen at s;have hq:=Bz R;have ht:=Bz hm;have aj:(qc:Int)<(X.cz.length:Int):=by omega
   have ao:(0:Int)<=(qc:Int):=by omega
   have ap:(tc:Int)<(xc.mz.length:Int):=by omega
   have an:(0:Int)<=(tc:Int):=by omega
   have al:decide ((qc:Int)<0)=false:=by simp
   replace u3:=Bf B u3;replace v0:=Bf B v0;replace v1:=Bf B v1;replace v2:=Bf B v2;replace v3:=Bf B v3;replace v4:=Bf B v4;have L:=Bg w1 (qD m ak ck);have Z:=(g.later BR B).later BR L;have a1:=Bh B L;have a6:=K.later L;have a2:(w1.alloc (qD m ak ck)).heap[w1.heap.size]?=some (qD m ak ck):=BH _ _;have ae:=K.sz;clear d j R hm he hf;go_upto_region 7 with (fail);generalize (w1.alloc (qD m ak ck))=V at *;generalize ad:w1.heap.size=b12 at *
   have C:∀w',qY V w'->w'.cell? (O b12 0)=some (qZ m.name)/\w'.cell? (O b12 1)=some (J m.args)/\w'.cell? (O b12 2)=some (J m.temps)/\w'.cell? (O b12 3)=some (J m.prim)/\w'.cell? (O b12 4)=some (qS ak m.code.length ck)/\w'.cell? (O (w.heap.size+1) 1)=some (J x.a):=λw' T=>by
    have h:=Bs a2 T;exact⟨by rw[Bn h];rfl,by rw[Bn h];rfl,by rw[Bn h];rfl,by rw[Bn h];rfl,by rw[Bn h];rfl,(a6.later T).x1⟩
   have hZ:∀w',qY V w'->w'.cell? (O (w.heap.size+2) 0)=some (qZ ⟨#[]⟩)/\w'.cell? (O (w.heap.size+2) 1)=some (J 0)/\w'.cell? (O (w.heap.size+2) 2)=some (J 0)/\w'.cell? (O (w.heap.size+2) 3)=some (J 0)/\w'.cell? (O (w.heap.size+2) 4)=some (qN)/\∀o,w'.frozen? (O (w.heap.size+2) o)=false:=λw' T=>by
    have h:=a6.later T;exact⟨h.z0,h.z1,h.z2,h.z3,h.z4,h.zf⟩
   have z:=C _ (Br _ V).drew;clear k0 k1 k2 x0 x1 x4 z0 z1 z2 z3 z4 zf sz u3 v0 v1 v2 v3 v4;by_cases hea:m.args=x.a
   ·have ab:(m.args == x.a)=true:=by simpa using hea
    have a0:Hid (Et X.cz sites at' x=if FH m then some m else none):=by show _=_;rw[a3.out];simp[hea]
    clear hea;refine Fm (S:=λw'=>w'.cell? (O b12 0)=some (qZ m.name)/\w'.cell? (O b12 1)=some (J m.args)/\w'.cell? (O b12 2)=some (J m.temps)/\w'.cell? (O b12 3)=some (J m.prim)/\w'.cell? (O b12 4)=some (qS ak m.code.length ck)/\w'.cell? (O (w.heap.size+1) 1)=some (J x.a)) [] (by kernel_rfl) ?_;refine tj 0 (⟨some 53,.load 51 (.tmp 12),51,_,_,none⟩) (MV m (qS ak m.code.length ck)) (z) ?_ ?_
    ·rintro w⟨_,_,_,_,_,_⟩;go_simp
    try simp only[Act.put,Bj,Bl,Bk]
    refine tj 1 (⟨some 54,.fieldAddr 51 (.tmp 12) 1,0,_,_,none⟩) (.pointer (some (O b12 1))) (z) ?_ ?_
    ·rintro w⟨_,_,_,_,_,_⟩;go_simp
    try simp only[Act.put,Bj,Bl,Bk]
    refine tj 2 (⟨some 55,.load 3 (.tmp 54),3,_,_,none⟩) (J m.args) (z) ?_ ?_
    ·rintro w⟨_,_,_,_,_,_⟩;go_simp
    try simp only[Act.put,Bj,Bl,Bk]
    refine tj 3 (⟨some 56,.fieldAddr 69 (.tmp 7) 1,0,_,_,none⟩) (.pointer (some (O (w.heap.size+1) 1))) (z) ?_ ?_
    ·rintro w⟨_,_,_,_,_,_⟩;go_simp
    try simp only[Act.put,Bj,Bl,Bk]
    refine tj 4 (⟨some 57,.load 3 (.tmp 56),3,_,_,none⟩) (J x.a) (z) ?_ ?_
    ·rintro w⟨_,_,_,_,_,_⟩;go_simp
    try simp only[Act.put,Bj,Bl,Bk]
    refine tj 5 (⟨some 58,.binOp .eql 3 (.tmp 55) (.tmp 57) 3,4,_,_,none⟩) (.bool true) (z) ?_ ?_
    ·rintro w⟨_,_,_,_,_,_⟩;go_simp
    try simp only[Act.put,Bj,Bl,Bk]
    refine tj 6 (⟨some 59,.move (.tmp 58),4,_,_,none⟩) (.bool true) (z) ?_ ?_
    ·rintro w⟨_,_,_,_,_,_⟩;go_simp
    try simp only[Act.put,Bj,Bl,Bk]
    refine tj 7 (⟨some 60,.load 51 (.tmp 12),51,_,_,some (6,true)⟩) (MV m (qS ak m.code.length ck)) (z) ?_ ?_
    ·rintro w⟨_,_,_,_,_,_⟩;go_simp
    try simp only[Act.put,Bj,Bl,Bk]
    refine DS (rs:=[8]) (by kernel_rfl) (by simp) ?_;intro i N;simp only[Zm,Zn,or_false] at N;subst N;refine Ck (o:=⟨some 61,.call ⟨.value (.func 198),#[.tmp 60],#[51]⟩,4,_,_,some (6,true)⟩) rfl (λK' M=>?_);refine xft (by rfl) 198 (.func 198) #[.tmp 60] _ rfl #[] rfl #[MV m (qS ak m.code.length ck)] (by simp[Act.eval,Act.put]) (cf46 _ _) ?_;refine (show Calls Tryz.prog 198 #[MV m (qS ak m.code.length ck)] V.drew _ from (xlq m _ V.drew (Z.later BR (Br _ V).drew)).mono ?_);rintro e w5 ⟨rfl,n⟩;refine⟨_,rfl,?_⟩;have F:qY V w5:=Bh (Br _ V).drew n;obtain⟨r0,r1,r2,r3,r4,rf⟩:=hZ _ F;obtain⟨z0,z1,z2,z3,z4,z5⟩:=C _ F;refine M _ _ (λ_=>?_) ?_
    ·exact C _ F
    clear M K'
    try simp only[Act.put,Bj,Bl,Bk]
    refine tj 9 (⟨some 62,.pick (.tmp 59) (.tmp 61) (.const (.bool false)),4,_,_,none⟩) (.bool (FH m)) (C _ F) ?_ ?_
    ·rintro w⟨_,_,_,_,_,_⟩;go_simp
    try simp only[Act.put,Bj,Bl,Bk]
    refine DS (rs:=[10]) (by kernel_rfl) (by simp) ?_;intro i N;simp only[Zm,Zn,or_false] at N;subst N;refine Ck (o:=⟨none,.store 51 (.tmp 8) (.tmp 53),0,_,_,none⟩) rfl (λK' M=>?_);go_simp;refine M _ _ (λ_=>?_) ?_
    ·exact⟨Dk z0 Zo,Dk z1 Zo,Dk z2 Zo,Dk z3 Zo,Dk z4 Zo,Dk z5 Zo⟩
    clear M K'
    try simp only[Act.put,Bj,Bl,Bk]
    refine tj 11 (⟨some 9,.assign (.tmp 62),4,_,_,none⟩) (.bool (FH m)) (⟨Dk z0 Zo,Dk z1 Zo,Dk z2 Zo,Dk z3 Zo,Dk z4 Zo,Dk z5 Zo⟩) ?_ ?_
    ·rintro w⟨_,_,_,_,_,_⟩;go_simp
    try simp only[Act.put,Bj,Bl,Bk]
    refine EZ (by kernel_rfl) ?_ _
    try simp only[Act.put,Bj,Bl,Bk]
    have HQ:=CH (xor (U:=w5) (m:=m) (a:=ak) (c:=ck) a0.out (Bh a1 F) (Z.later BR F));go_wp2;refine Bt (v:=.tuple #[MV m (qS ak m.code.length ck),.bool (FH m)]) ?_ rfl HQ.out;simp[results,Tryz.results149,go_sem,r0,r1,r2,r3,r4]
   have ab:(m.args == x.a)=false:=by simpa using hea
   have a0:Hid (Et X.cz sites at' x=if false then some m else none):=by show _=_;rw[a3.out];simp[hea]
   clear hea;refine Fm (S:=λw'=>w'.cell? (O b12 0)=some (qZ m.name)/\w'.cell? (O b12 1)=some (J m.args)/\w'.cell? (O b12 2)=some (J m.temps)/\w'.cell? (O b12 3)=some (J m.prim)/\w'.cell? (O b12 4)=some (qS ak m.code.length ck)/\w'.cell? (O (w.heap.size+1) 1)=some (J x.a)) [] (by kernel_rfl) ?_;refine tj 0 (⟨some 53,.load 51 (.tmp 12),51,_,_,none⟩) (MV m (qS ak m.code.length ck)) (z) ?_ ?_
   ·rintro w⟨_,_,_,_,_,_⟩;go_simp
   try simp only[Act.put,Bj,Bl,Bk]
   refine tj 1 (⟨some 54,.fieldAddr 51 (.tmp 12) 1,0,_,_,none⟩) (.pointer (some (O b12 1))) (z) ?_ ?_
   ·rintro w⟨_,_,_,_,_,_⟩;go_simp
   try simp only[Act.put,Bj,Bl,Bk]
   refine tj 2 (⟨some 55,.load 3 (.tmp 54),3,_,_,none⟩) (J m.args) (z) ?_ ?_
   ·rintro w⟨_,_,_,_,_,_⟩;go_simp
   try simp only[Act.put,Bj,Bl,Bk]
   refine tj 3 (⟨some 56,.fieldAddr 69 (.tmp 7) 1,0,_,_,none⟩) (.pointer (some (O (w.heap.size+1) 1))) (z) ?_ ?_
   ·rintro w⟨_,_,_,_,_,_⟩;go_simp
   try simp only[Act.put,Bj,Bl,Bk]
   refine tj 4 (⟨some 57,.load 3 (.tmp 56),3,_,_,none⟩) (J x.a) (z) ?_ ?_
   ·rintro w⟨_,_,_,_,_,_⟩;go_simp
   try simp only[Act.put,Bj,Bl,Bk]
   refine tj 5 (⟨some 58,.binOp .eql 3 (.tmp 55) (.tmp 57) 3,4,_,_,none⟩) (.bool false) (z) ?_ ?_
   ·rintro w⟨_,_,_,_,_,_⟩;go_simp
   try simp only[Act.put,Bj,Bl,Bk]
   refine tj 6 (⟨some 59,.move (.tmp 58),4,_,_,none⟩) (.bool false) (z) ?_ ?_
   ·rintro w⟨_,_,_,_,_,_⟩;go_simp
   try simp only[Act.put,Bj,Bl,Bk]
   refine xeD (i:=7) (oi:=⟨some 60,.load 51 (.tmp 12),51,_,_,some (6,true)⟩) (v:=undef) (by kernel_rfl) (by kernel_rfl) rfl (by kernel_rfl) (by kernel_rfl) (by kernel_rfl) (λ_ _ _ h=>h) (Or.inr ⟨by rfl,rfl⟩) (z) ?_
   try simp only[Act.put,Bj,Bl,Bk]
   refine xeD (i:=8) (oi:=⟨some 61,.call ⟨.value (.func 198),#[.tmp 60],#[51]⟩,4,_,_,some (6,true)⟩) (v:=undef) (by kernel_rfl) (by kernel_rfl) rfl (by kernel_rfl) (by kernel_rfl) (by kernel_rfl) (λ_ _ _ h=>h) (Or.inr ⟨by rfl,rfl⟩) (z) ?_
   try simp only[Act.put,Bj,Bl,Bk]
   refine tj 9 (⟨some 62,.pick (.tmp 59) (.tmp 61) (.const (.bool false)),4,_,_,none⟩) (.bool false) (z) ?_ ?_
   ·rintro w⟨_,_,_,_,_,_⟩;go_simp
   try simp only[Act.put,Bj,Bl,Bk]
   refine DS (rs:=[10]) (by kernel_rfl) (by simp) ?_;intro i N;simp only[Zm,Zn,or_false] at N;subst N;refine Ck (o:=⟨none,.store 51 (.tmp 8) (.tmp 53),0,_,_,none⟩) rfl (λK' M=>?_);obtain⟨r0,r1,r2,r3,r4,rf⟩:=hZ _ (Br _ V);obtain⟨z0,z1,z2,z3,z4,z5⟩:=C _ (Br _ V);go_simp;refine M _ _ (λ_=>?_) ?_
   ·exact⟨Bf (Br _ _).drew (Dk z0 Zo),Bf (Br _ _).drew (Dk z1 Zo),Bf (Br _ _).drew (Dk z2 Zo),Bf (Br _ _).drew (Dk z3 Zo),Bf (Br _ _).drew (Dk z4 Zo),Bf (Br _ _).drew (Dk z5 Zo)⟩
   clear M K'
   try simp only[Act.put,Bj,Bl,Bk]
   refine tj 11 (⟨some 9,.assign (.tmp 62),4,_,_,none⟩) (.bool false) (⟨Bf (Br _ _).drew (Dk z0 Zo),Bf (Br _ _).drew (Dk z1 Zo),Bf (Br _ _).drew (Dk z2 Zo),Bf (Br _ _).drew (Dk z3 Zo),Bf (Br _ _).drew (Dk z4 Zo),Bf (Br _ _).drew (Dk z5 Zo)⟩) ?_ ?_
   ·rintro w⟨_,_,_,_,_,_⟩;go_simp
   try simp only[Act.put,Bj,Bl,Bk]
   refine EZ (by kernel_rfl) ?_ _
   try simp only[Act.put,Bj,Bl,Bk]
   have HQ:=CH (xor (U:=V) (m:=m) (a:=ak) (c:=ck) (b:=false) a0.out a1 Z);obtain⟨r0,r1,r2,r3,r4,rf⟩:=hZ _ (Br _ V);go_wp2;refine Bt (v:=.tuple #[MV m (qS ak m.code.length ck),.bool false]) ?_ rfl HQ.out.drew;simp[results,Tryz.results149,go_sem,r0,r1,r2,r3,r4]
  have a9:(sites.length:Int)<=(at':Int):=by omega
  have Y:=CH (HN.out W H (by unfold Et;rw[if_neg (by rw[List.getD_eq_getElem?_getD,List.getElem?_eq_none Zo];simp)]));clear f;go_wp2;refine Bt (v:=.tuple #[MV MC (qN),.bool false]) ?_ rfl Y.out;simp[results,Tryz.results149,go_sem,z0,z1,z2,z3,z4]
 have hd:(x.op == 14)=false:=by simpa using hop
 have a5:(x.op != 14)=true:=by simpa using hop
 have Y:=CH (HN.out W H (by unfold Et;rw[if_neg Zo]));clear hop;go_wp2;refine Bt (v:=.tuple #[MV MC (qN),.bool false]) ?_ rfl Y.out;simp[results,Tryz.results149,go_sem,z0,z1,z2,z3,z4]
structure Sml (m:QM):Prop where
 args:0<=m.args/\m.args<=4
 temps:0<=m.temps/\m.temps<=6
 len:m.code.length<=60
 code:∀x∈m.code,(x.op=2\/x.op=3\/x.op=11\/x.op=15\/x.op=16)->0<=x.a/\x.a<=1000
 jump:∀x∈m.code,(x.op=15\/x.op=16)->0<=x.a/\x.a<m.code.length
 plain:∀x∈m.code,1<=x.op/\x.op<=17/\x.b=0/\x.c=0/\(x.op≠14->PW x.name=true)
theorem xnX {X:QW}(h:BM X=0){c n:Int}{m:QM}(f:Cp X.cz c n=some m)(d:m.prim≠0):m.args=1/\m.temps=0/\m.code=[]:=by
 rcases xfI h f with ⟨-,-⟩ | ⟨q,-⟩
 ·obtain⟨s,-,r,-⟩:=Gx h;unfold Cp at f
  cases o:Cy X.cz c with
  | none=>rw[o] at f;cases f
  | some x=>
   rw[o] at f;simp only[Option.bind_some] at f;obtain⟨k,rfl,b⟩:=Gl o;split at f
   ·have l:=r k x (Bz b) b;unfold Dm at l;split at l
    ·cases l
    split at l
    ·cases l
    have j:=Hm l _ _ f;unfold Dn at j;split at j
    ·cases j
    split at j
    ·rename_i g;unfold Ft at g;rw[List.any_eq_true] at g;obtain⟨p,e,g⟩:=g;simp only[Bool.and_eq_true,decide_eq_true_eq] at g;exact⟨g.1.1.2,g.1.2,List.eq_nil_of_length_eq_zero g.2⟩
    exfalso;unfold Em at j;split at j
    ·rename_i a;exact absurd j a
    rename_i a;have i:DF X.cz.length k m=0:=Decidable.of_not_not a;unfold DF at i;split at i
    ·cases i
    split at i
    ·cases i
    split at i
    ·cases i
    cases i
   cases f
 exact absurd q d
theorem Qh {X:QW}(h:BM X=0){c n:Int}{m:QM}(p:Cp X.cz c n=some m):Sml m:=by
 by_cases hp0:m.prim=0
 ·rcases xfI h p with ⟨q,-⟩ | ⟨-,S,N,i,l,-⟩
  ·exact absurd hp0 q
  unfold DF at i;split at i
  ·cases i
  split at i
  ·cases i
  split at i
  ·cases i
  rename_i d;split at i
  ·cases i
  split at i
  ·cases i
  rename_i b;simp[Cj] at d b;have r:m.code.length<=60:=by omega
  refine⟨by omega,by omega,r,λx g f=>?_,λx g f=>?_,λx g=>?_⟩
  ·have e:=l x g;obtain⟨n1,n2,n3,n4,n5,n6,n7⟩:=xgq e;rcases f with f | f | f | f | f
   ·have:=n3 f;omega
   ·have:=n4 (Or.inl f);omega
   ·have:=n4 (Or.inr f);omega
   ·unfold DD at e;split at e
    ·cases e
    split at e
    ·cases e
    rename_i a;simp[Ew,f,Cj] at a;omega
   unfold DD at e;split at e
   ·cases e
   split at e
   ·cases e
   rename_i a;simp[Ew,f,Cj] at a;omega
  ·have e:=l x g;unfold DD at e;split at e
   ·cases e
   split at e
   ·cases e
   rename_i a;rcases f with f | f<;>(simp[Ew,f,Cj] at a;omega)
  ·have e:=l x g;obtain⟨n1,n2,n3,n4,n5,n6,n7⟩:=xgq e;refine⟨n1,n2,n6,n7,λo=>?_⟩;unfold DD at e;split at e
   ·cases e
   split at e
   ·cases e
   split at e
   ·cases e
   rename_i t
   have j:Kf x=true:=by
    cases s:Kf x with
    | true=>rfl
    | false=>exact absurd (Or.inl s) t
   unfold Kf at j;rw[if_neg o] at j;exact j
 obtain⟨u,v,k⟩:=xnX h p hp0;refine⟨by omega,by omega,by rw[k];simp,λx g=>(by rw[k] at g;cases g),λx g=>(by rw[k] at g;cases g),λx g=>(by rw[k] at g;cases g)⟩
theorem xeS {xs:List QC}{k:Int}{name:ByteArray}{m:QM}(h:Lh xs k name=some m):Cp xs (BF xs k name).1 (BF xs k name).2=some m:=by
 unfold Lh at h;split at h
 ·cases h
 rename_i c;unfold Cp Cy;rcases xfs xs k name with ⟨-,e⟩ | ⟨q,x,t,y,a,d,b⟩
 ·exact absurd e c
 rw[a] at h ⊢;simp[d,b] at h ⊢;exact h
theorem LQ {X:QW}(h:BM X=0){sites:List Int}{at':Nat}{x:QI}{m:QM}(b:Et X.cz sites at' x=some m):Sml m/\m.args=x.a/\FH m=true/\x.op=14:=by
 unfold Et at b;split at b
 ·rename_i e;split at b
  ·cases b
  rename_i m' d;split at b
  ·rename_i c
   cases b;exact⟨Qh h (xeS d),c.1,c.2,e.1⟩
  cases b
 cases b
theorem NN {X:QW}(h:BM X=0){sites:List Int}{m:QM}(b:Sml m):∀ {k:Nat},k<=m.code.length->(Bv X.cz sites m k).code.length+(m.code.length-k)<=240/\0<=(Bv X.cz sites m k).temps/\(Bv X.cz sites m k).temps<=40/\(Bv X.cz sites m k).pieces<=k
 | 0,_=>by have:=b.len;have:=b.temps;exact⟨by simp[Bv];omega,by simp[Bv];omega,by simp[Bv];omega,Bq _⟩
 | k+1,hk=>by
  obtain⟨i1,i2,i3,i4⟩:=NN h b (sites:=sites) (k:=k) (by omega);rw[Kb (List.getElem?_eq_getElem (by omega))];generalize Bv X.cz sites m k=s at *;generalize m.code[k]=x;unfold FJ DK
  cases c:Et X.cz sites k x with
  | none=>simp only[List.length_append,List.length_cons,List.length_nil];omega
  | some leaf=>
   obtain⟨a,-⟩:=LQ h c;by_cases hr:Kz s.code.length s.temps leaf ((m.code.length:Int)-k)=true
   ·simp only[hr,if_true,List.length_append,KB];unfold Kz at hr;have d:=of_decide_eq_true hr;have:=a.args;have:=a.temps;omega
   simp only[hr,if_false,List.length_append,List.length_cons,List.length_nil];simp;omega
structure MtL (Z:qW)(bm:Nat)(m:QM)(kv:Value)(c ep tm:Int)(code:List QI)(bl:List Int)(a:Option Addr)(cap:Nat)(wr:qW):Prop where
 os:wr.os=Z.os
 tape:wr.tape=Z.tape
 output:wr.output=Z.output
 sz:bm+3<=wr.heap.size
 fix:∀b,b<bm->wr.heap[b]?=Z.heap[b]?
 mb:wr.heap[bm]?=some (qC #[qZ m.name,J m.args,J m.temps,J m.prim,kv] 51 (0,0))
 fb:wr.heap[bm+1]?=some (qC #[J c,qZ m.name,J ep,J tm,qS a code.length cap] 187 (0,0))
 gb:wr.heap[bm+2]?=some (.cells (bl.map (Value.int .i64)).toArray 3 (0,0))
 own:OwnI wr (bm+3) a cap code
section
variable {Z:World} {bm:Nat} {m:QM} {kv:Value} {c ep tm:Int} {code:List QI} {bl:List Int} {a:Option Addr} {cap:Nat} {wr w':World}
theorem MtL.later (h:MtL Z bm m kv c ep tm code bl a cap wr)(d:qY wr w'):MtL Z bm m kv c ep tm code bl a cap w':=
 ⟨d.os.trans h.os,d.tape.trans h.tape,d.output.trans h.output,BX h.sz d.size,λb e=>(d.block b (by have:=h.sz;omega)).trans (h.fix b e),Bs h.mb d,Bs h.fb d,Bs h.gb d,h.own.keep λg f=>d.block g (h.own.lt g f).2⟩
theorem MtL.setG (h:MtL Z bm m kv c ep tm code bl a cap wr)(j:Nat)(t:Int):MtL Z bm m kv c ep tm code (bl.set j t) a cap (wr.setCell (O (bm+2) j) (J t)):=by
 have d:Below 0 wr (wr.setCell (O (bm+2) j) (J t)):=(Br 0 wr).setCell (Nat.zero_le _) _;refine⟨d.os.trans h.os,d.tape.trans h.tape,d.output.trans h.output,by rw[GT];exact h.sz,λb f=>by rw[BS (by omega)];exact h.fix b f,by rw[BS (by omega)];exact h.mb,by rw[BS (by omega)];exact h.fb,?_,h.own.keep λg e=>BS (by have:=(h.own.lt g e).1;omega) _⟩;rw[BW h.gb,List.map_set];simp
theorem MtL.setT (h:MtL Z bm m kv c ep tm code bl a cap wr)(t:Int):MtL Z bm m kv c ep t code bl a cap (wr.setCell (O (bm+1) 3) (J t)):=by
 have d:Below 0 wr (wr.setCell (O (bm+1) 3) (J t)):=(Br 0 wr).setCell (Nat.zero_le _) _;refine⟨d.os.trans h.os,d.tape.trans h.tape,d.output.trans h.output,by rw[GT];exact h.sz,λb f=>by rw[BS (by omega)];exact h.fix b f,by rw[BS (by omega)];exact h.mb,?_,by rw[BS (by omega)];exact h.gb,h.own.keep λg e=>BS (by have:=(h.own.lt g e).1;omega) _⟩;rw[BW h.fb];rfl
theorem MtL.setC {U:qW}{a':Option Addr}{cap':Nat}{ys:List QI}(h:MtL Z bm m kv c ep tm code bl a cap U)(r1:OwnI w' (bm+3) a' cap' (code++ys))(r3:Below (bm+3) U w'):MtL Z bm m kv c ep tm (code++ys) bl a' cap' (w'.setCell (O (bm+1) 4) (qS a' (code++ys).length cap')):=by
 have d:Below 0 w' (w'.setCell (O (bm+1) 4) (qS a' (code++ys).length cap')):=(Br 0 w').setCell (Nat.zero_le _) _;have e:=h.sz;refine⟨d.os.trans (r3.os.trans h.os),d.tape.trans (r3.tape.trans h.tape),d.output.trans (r3.output.trans h.output),by rw[GT];exact BX e r3.size,λb i=>by rw[BS Zo,r3.block b Zo];exact h.fix b i,by rw[BS Zo,r3.block _ Zo];exact h.mb,?_,by rw[BS Zo,r3.block _ Zo];exact h.gb,r1.keep λg f=>BS (by have:=(r1.lt g f).1;omega) _⟩;rw[BW (show w'.heap[bm+1]?=_ by rw[r3.block _ Zo];exact h.fb)];rfl
theorem MtL.below {w:qW}(h:MtL Z bm m kv c ep tm code bl a cap wr)(d:qY w Z)(f:w.heap.size<=bm):qY w wr:=⟨h.os.trans d.os,h.tape.trans d.tape,h.output.trans d.output,by have:=h.sz;omega,λb e=>(h.fix b (by omega)).trans (d.block b e)⟩
theorem MtL.f0 (h:MtL Z bm m kv c ep tm code bl a cap wr):wr.cell? (O (bm+1) 0)=some (J c):=by rw[Bn h.fb];rfl
theorem MtL.f1 (h:MtL Z bm m kv c ep tm code bl a cap wr):wr.cell? (O (bm+1) 1)=some (qZ m.name):=by rw[Bn h.fb];rfl
theorem MtL.f2 (h:MtL Z bm m kv c ep tm code bl a cap wr):wr.cell? (O (bm+1) 2)=some (J ep):=by rw[Bn h.fb];rfl
theorem MtL.f3 (h:MtL Z bm m kv c ep tm code bl a cap wr):wr.cell? (O (bm+1) 3)=some (J tm):=by rw[Bn h.fb];rfl
theorem MtL.f4 (h:MtL Z bm m kv c ep tm code bl a cap wr):wr.cell? (O (bm+1) 4)=some (qS a code.length cap):=by rw[Bn h.fb];rfl
theorem MtL.m4 (h:MtL Z bm m kv c ep tm code bl a cap wr):wr.cell? (O bm 4)=some kv:=by rw[Bn h.mb];rfl
theorem MtL.g (h:MtL Z bm m kv c ep tm code bl a cap wr){j:Nat}{t:Int}(b:bl[j]?=some t):wr.cell? (O (bm+2) j)=some (J t):=by rw[Bn h.gb];simp[b]
theorem MtL.ff (h:MtL Z bm m kv c ep tm code bl a cap wr)(o:Nat):wr.frozen? (O (bm+1) o)=false:=KC h.fb o
theorem MtL.gf (h:MtL Z bm m kv c ep tm code bl a cap wr)(o:Nat):wr.frozen? (O (bm+2) o)=false:=KC h.gb o
theorem MtL.old (h:MtL Z bm m kv c ep tm code bl a cap wr){b o:Nat}{v:Value}(d:b<bm)(hv:Z.cell? (O b o)=some v):wr.cell? (O b o)=some v:=by
 unfold World.cell? at hv ⊢;rw[h.fix b d];exact hv
theorem MtL.capOk (h:MtL Z bm m kv c ep tm code bl a cap wr):code.length<=cap/\cap<=9223372036854775807:=by
 obtain⟨a',c',e,b,d⟩:=h.own.form
 cases e;unfold maxLen at d;exact⟨b,by omega⟩
end
theorem xhK {s:List Int}{n j:Nat}{t:Int}(a:s.length=j)(b:j<n):(s++List.replicate (n-j) 0).set j t=s++[t]++List.replicate (n-(j+1)) 0:=by
 rw[show n-j=(n-(j+1))+1 by omega,List.replicate_succ,List.set_append];simp[a]
def Qk (w:qW)(r:Fst × Bool)(e:Ending)(w':qW):Prop:=
 ∃a cap,e=.returned (.tuple #[FW r.1 (qS a r.1.code.length cap),.bool r.2])/\Cm (λb=>w.heap.size<=b/\b<w'.heap.size) w' (qS a r.1.code.length cap) r.1.code/\qY w w'
end Go.Proofs.YtbafokihegegiaaGreatDoor
