/- A part. -/
import Derived.Test.YtbafokihegegiaaGreatDoorT32
namespace Go.Proofs.YtbafokihegegiaaGreatDoor
open Go.ChangeShapes Go.WideShapes Go.ChangeAt Go.RowKit
set_option linter.unusedSimpArgs false
set_option linter.unusedVariables false
set_option maxHeartbeats 8000000
set_option maxRecDepth 8000
theorem Pb {P Q:Nat->Prop}{i:Nat}(s:Sn)(hI:SInv i s)(hi:i<1000)(hf:Hg s 400)(x:StE)(hN:NamesOk x)(cv hv lv tv sv mv av:Value)(w:qW)(hS:SesAt P w cv hv lv tv s)(u:SvAt P w sv s.saved)(hV:VarsB w.heap.size w)(hM:Cm Q w mv x.meth.code)(hA:CG Q w av x.args) :
  Calls Tryz.prog 19 #[Hf cv hv s.X.ez lv tv sv,StV x mv av] w λe w'=>∃cv' hv' lv' tv' sv':Value,e=.returned (.tuple #[Hf cv' hv' (Cg s x).1.X.ez lv' tv' sv',Ej (Cg s x).2])/\SesAt (λb=>w.heap.size<=b) w' cv' hv' lv' tv' (Cg s x).1/\SvAt (λb=>w.heap.size<=b) w' sv' (Cg s x).1.saved/\qY w w':=by
 have an:=λ(w':qW) (hb:qY w w')=>xvF s hf cv hv lv tv sv w' (hS.keep (Keeps.of_below hb) λ_ h=>h) (u.keep (Keeps.of_below hb) λ_ h=>h);have aw:=λ(w':qW) (hb:qY w w') (P:Nat->Prop) (cv hv lv tv sv:Value) (sb:Nat) (ak:w'.heap[sb]?=some (DR cv hv s.X.ez lv tv sv)) (hS':SesAt P w' cv hv lv tv s) (hSv':SvAt P w' sv s.saved) (hP:∀b,P b->b≠sb) (hPl:∀b,P b->b<w'.heap.size)=>xwM s hI hi hf x hN cv hv lv tv sv mv av w' sb ak hS' hSv' hP hPl ((hV.on hb).mono hb.size) (hM.later BR hb) (hA.later BZ hb);obtain⟨ac,cc,rfl,-⟩:=id hS.c;obtain⟨ah,ch,rfl,-⟩:=id hS.h;obtain⟨al,kl,rfl,-⟩:=id hS.l;obtain⟨at',kt,rfl,-⟩:=id hS.t;obtain⟨am,cm,rfl,-⟩:=id hM;obtain⟨aa,ca,rfl,-⟩:=id hA;generalize Cg s x=R at *;clear hS u hV hM hA hI hf hN hi;have a8:qY w ((((w.alloc (qF s ac cc ah ch al kl at' kt (sv))).alloc (qB x am cm aa ca)).alloc (qM)).alloc (qR)):=Bh (BG _ _ _) (BG _ _ _);have ax:((((w.alloc (qF s ac cc ah ch al kl at' kt (sv))).alloc (qB x am cm aa ca)).alloc (qM)).alloc (qR)).heap[w.heap.size]?=some (qF s ac cc ah ch al kl at' kt (sv)):=Bs (Bs (BH w _) (Bg _ _)) (BG _ _ _)
 have aj:((((w.alloc (qF s ac cc ah ch al kl at' kt (sv))).alloc (qB x am cm aa ca)).alloc (qM)).alloc (qR)).heap[w.heap.size+1]?=some (qB x am cm aa ca):=Bs (Dh _ _ _ (by simp)) (BG _ _ _);have a6:((((w.alloc (qF s ac cc ah ch al kl at' kt (sv))).alloc (qB x am cm aa ca)).alloc (qM)).alloc (qR)).heap[w.heap.size+2]?=some (qM):=Bs (Dh _ _ _ (by simp)) (Bg _ _);have a5:((((w.alloc (qF s ac cc ah ch al kl at' kt (sv))).alloc (qB x am cm aa ca)).alloc (qM)).alloc (qR)).heap[w.heap.size+3]?=some (qR):=Dh _ _ _ (by simp);have az:w.heap.size+4<=((((w.alloc (qF s ac cc ah ch al kl at' kt (sv))).alloc (qB x am cm aa ca)).alloc (qM)).alloc (qR)).heap.size:=by simp
 go_enter Tryz.func19,Tryz.ntmps19;go_upto_region 1 with (fail);generalize (((w.alloc (qF s ac cc ah ch al kl at' kt (sv))).alloc (qB x am cm aa ca)).alloc (qM)).alloc (qR)=W at *;obtain⟨-,e0,e1,e2,e3,e4,e5⟩:=EH ax;go_wp2_with fail;refine (an W a8).mono ?_;rintro e W1 ⟨G,H,L,K,N,rfl,ab,af,j⟩;obtain⟨a1,k1,rfl,-⟩:=id ab.c;obtain⟨a2,k2,rfl,-⟩:=id ab.h;obtain⟨a3,k3,rfl,-⟩:=id ab.l;obtain⟨a4,k4,rfl,-⟩:=id ab.t;obtain⟨p,r,rfl⟩:=af.get;clear e0 e1 e2 e3 e4 e5 ax;have ae:=Bg W1 (qF s a1 k1 a2 k2 a3 k3 a4 k4 (qS p s.saved.length r));have ak:(W1.alloc (qF s a1 k1 a2 k2 a3 k3 a4 k4 (qS p s.saved.length r))).heap[W1.heap.size]?=some (qF s a1 k1 a2 k2 a3 k3 a4 k4 (qS p s.saved.length r)):=BH _ _;have ay:=j.size;have ap:W1.heap.size<(W1.alloc (qF s a1 k1 a2 k2 a3 k3 a4 k4 (qS p s.saved.length r))).heap.size:=by simp
 replace ab:=ab.keep (Keeps.of_below ae) λ_ h=>h;replace af:=af.keep (Keeps.of_below ae) λ_ h=>h;replace aj:=Bs (Bs aj j) ae;replace a6:=Bs (Bs a6 j) ae;replace a5:=Bs (Bs a5 j) ae;replace a8:=Bh (Bh a8 j) ae;go_upto_region 2 with (fail);clear ae j;generalize W1.alloc (qF s a1 k1 a2 k2 a3 k3 a4 k4 (qS p s.saved.length r))=W2 at *;generalize W1.heap.size=sb at *;obtain⟨p0,p1,p2,p3,p4,p5,p6,p7,p8,p9,B,y,z⟩:=QN aj;have ai:=aw W2 a8 _ _ _ _ _ _ sb ak ab af (λb h=>Nat.ne_of_lt h.2) λb h=>Nat.lt_trans h.2 ap;go_wp2_with fail;refine ai.mono ?_;rintro e Z ⟨rfl,⟨V,F,D,M,T,hO,a0,a7⟩,d⟩;obtain⟨b1,j1,rfl,-⟩:=id a0.c;obtain⟨b2,j2,rfl,-⟩:=id a0.h;obtain⟨b3,j3,rfl,-⟩:=id a0.l;obtain⟨b4,j4,rfl,-⟩:=id a0.t;obtain⟨m,g,rfl⟩:=a7.get;clear p0 p1 p2 p3 p4 p5 p6 p7 p8 p9 B y z aj ai aw an ak;have ao:=d.size;have ar:=(d.blk _ (by omega) (by rw[Eb (by omega)];omega)).trans a6;have aq:=(d.blk _ (by omega) (by rw[Eb (by omega)];omega)).trans a5;have au:qY w Z:=⟨d.os.trans a8.os,d.tape.trans a8.tape,d.output.trans a8.output,by have:=a8.size;omega,λb hb=>(d.blk b (by have:=a8.size;omega) (by rw[Eb (by omega)];omega)).trans (a8.block b hb)⟩
 have ad:=Bg Z (qT R.2);have a9:(Z.alloc (qT R.2)).heap[Z.heap.size]?=some (qT R.2):=BH _ _;replace hO:=Bs hO ad;replace a6:=Bs ar ad;replace a5:=Bs aq ad;have hb:=Bh au ad;replace a0:=a0.keep (Keeps.of_below ad) λ_ h=>h;replace a7:=a7.keep (Keeps.of_below ad) λ_ h=>h;clear ar aq ab af;go_upto_region 3 with (fail);have f:W2.heap.size<=Z.heap.size:=ao;clear ad d au a8 ao;generalize Z.alloc (qT R.2)=Y at *;generalize Z.heap.size=rp at *;generalize W.heap.size=sl at *;obtain⟨sg,C⟩:∃sg,W2.heap.size=sg:=⟨_,rfl⟩;rw[C] at a0 a7 ap f;refine Fm (S:=λw'=>FZ sb (qS b1 R.1.X.cz.length j1) (qS b2 R.1.X.heap.length j2) R.1.X.ez (qS b3 R.1.cells.length j3) (qS b4 R.1.ts.length j4) (qS m R.1.saved.length g) w'/\w'.cell? (O rp 0)=some (J R.2.err)/\w'.cell? (O rp 1)=some (J R.2.n)/\w'.cell? (O rp 2)=some (J R.2.v.k)/\w'.cell? (O rp 3)=some (J R.2.v.n)) [] (by kernel_rfl) ?_;replace hb:=hb.drew;replace hO:=PV hO;replace a9:=PV a9;replace a6:=PV a6;replace a5:=PV a5;replace a0:=a0.keep (w':=Y.drew) (Keeps.of_below (Br _ Y).drew) λ_ h=>h;replace a7:=a7.keep (w':=Y.drew) (Keeps.of_below (Br _ Y).drew) λ_ h=>h;generalize Y.drew=U at *
 repeat' first
  | (
    refine tk 0 (⟨some 12,.load 31 (.tmp 6),31,_,_,none⟩) (Hf (qS b1 R.1.X.cz.length j1) (qS b2 R.1.X.heap.length j2) R.1.X.ez (qS b3 R.1.cells.length j3) (qS b4 R.1.ts.length j4) (qS m R.1.saved.length g)) rfl ⟨Fc hO,(Ec a9).2⟩ (λ_ _ _ h=>h) rfl ?_ ?_ ?_
    ·decide +kernel
    ·rintro w⟨⟨_,_,_,_,_,_⟩,_,_,_,_⟩;go_simp
    try simp only[Act.put,Bj,Bl,Bk])
  | (
    refine tk 1 (⟨some 13,.load 43 (.tmp 7),43,_,_,none⟩) (Ej R.2) rfl ⟨Fc hO,(Ec a9).2⟩ (λ_ _ _ h=>h) rfl ?_ ?_ ?_
    ·decide +kernel
    ·rintro w⟨⟨_,_,_,_,_,_⟩,_,_,_,_⟩;go_simp
    try simp only[Act.put,Bj,Bl,Bk])
  | (
    refine CN [2] rfl ?_ ⟨?_,trivial⟩
    ·decide +kernel)
  | (
    refine CN [3] rfl ?_ ⟨?_,trivial⟩
    ·decide +kernel)
  | (
    refine Ck (o:=⟨none,.store 31 (.tmp 4) (.tmp 12),0,_,_,none⟩) rfl (λK' hK=>?_);have q:=EH a6;have rf:=q.1;have r0:=q.2.1;have r1:=q.2.2.1;have r2:=q.2.2.2.1;have r3:=q.2.2.2.2.1;have r4:=q.2.2.2.2.2.1;have r5:=q.2.2.2.2.2.2;obtain⟨f,a⟩:=Mm a6 (qS b1 R.1.X.cz.length j1) (qS b2 R.1.X.heap.length j2) (J R.1.X.ez) (qS b3 R.1.cells.length j3) (qS b4 R.1.ts.length j4) (qS m R.1.saved.length g);go_simp;refine hK _ _ (λ_=>?_) ?_
    ·exact⟨Fc (a.held hO (by omega)),(Ec (a.held a9 (by omega))).2⟩
    clear hK K' q rf r0 r1 r2 r3 r4 r5
    try simp only[Act.put,Bj,Bl,Bk]
    replace a6:=f;replace hO:=a.held hO (by omega);replace a9:=a.held a9 (by omega);replace a0:=a0.keep (a.keeps (by show ¬ (sl<=w.heap.size+2/\w.heap.size+2<sb\/sg<=w.heap.size+2);omega)) λ_ h=>h;replace a7:=a7.keep (a.keeps (by show ¬ (sl<=w.heap.size+2/\w.heap.size+2<sb\/sg<=w.heap.size+2);omega)) λ_ h=>h;replace hb:=hb.trans (a.below (by omega));replace a5:=a.held a5 (by omega);clear f a;generalize ((((((U.setCell (O (w.heap.size+2) 0) (qS b1 R.1.X.cz.length j1)).setCell (O (w.heap.size+2) 1) (qS b2 R.1.X.heap.length j2)).setCell (O (w.heap.size+2) 2) (J R.1.X.ez)).setCell (O (w.heap.size+2) 3) (qS b3 R.1.cells.length j3)).setCell (O (w.heap.size+2) 4) (qS b4 R.1.ts.length j4)).setCell (O (w.heap.size+2) 5) (qS m R.1.saved.length g))=U at *)
  | (
    refine Ck (o:=⟨none,.store 43 (.tmp 5) (.tmp 13),0,_,_,none⟩) rfl (λK' hK=>?_);have q:=Ec a5;have rf:=q.1;have r0:=q.2.1;have r1:=q.2.2.1;have r2:=q.2.2.2.1;have r3:=q.2.2.2.2;obtain⟨f,a⟩:=Fz a5 (J R.2.err) (J R.2.n) (J R.2.v.k) (J R.2.v.n);go_simp;refine hK _ _ (λ_=>?_) ?_
    ·exact⟨Fc (a.held hO (by omega)),(Ec (a.held a9 (by omega))).2⟩
    clear hK K' q rf r0 r1 r2 r3
    try simp only[Act.put,Bj,Bl,Bk]
    replace a5:=f;replace hO:=a.held hO (by omega);replace a9:=a.held a9 (by omega);replace a0:=a0.keep (a.keeps (by show ¬ (sl<=w.heap.size+3/\w.heap.size+3<sb\/sg<=w.heap.size+3);omega)) λ_ h=>h;replace a7:=a7.keep (a.keeps (by show ¬ (sl<=w.heap.size+3/\w.heap.size+3<sb\/sg<=w.heap.size+3);omega)) λ_ h=>h;replace hb:=hb.trans (a.below (by omega));replace a6:=a.held a6 (by omega);clear f a;generalize ((((U.setCell (O (w.heap.size+3) 0) (J R.2.err)).setCell (O (w.heap.size+3) 1) (J R.2.n)).setCell (O (w.heap.size+3) 2) (J R.2.v.k)).setCell (O (w.heap.size+3) 3) (J R.2.v.n))=U at *)
  | (
    refine EZ ?_ ?_ _
    ·decide +kernel
    try simp only[Act.put,Bj,Bl,Bk]
    have ag:=hid (show qY w U/\SesAt (λb=>sl<=b/\b<sb\/sg<=b) U (qS b1 R.1.X.cz.length j1) (qS b2 R.1.X.heap.length j2) (qS b3 R.1.cells.length j3) (qS b4 R.1.ts.length j4) R.1/\SvAt (λb=>sl<=b/\b<sb\/sg<=b) U (qS m R.1.saved.length g) R.1.saved from ⟨hb,a0,a7⟩);have ra:=(EH a6).2;have rb:=(Ec a5).2;go_wp2;refine Bt (v:=.tuple #[Hf (qS b1 R.1.X.cz.length j1) (qS b2 R.1.X.heap.length j2) R.1.X.ez (qS b3 R.1.cells.length j3) (qS b4 R.1.ts.length j4) (qS m R.1.saved.length g),Ej R.2]) ?_ rfl ⟨_,_,_,_,_,rfl,ag.out.2.1.keep (Keeps.refl _ _) λb h=>by omega,ag.out.2.2.keep (Keeps.refl _ _) λb h=>by omega,ag.out.1⟩;simp[results,Tryz.results19,go_sem,ra,rb])
  | fail
theorem xpN (w:qW):Calls Tryz.prog 35 #[] w λe w'=>∃cv hv,e=.returned (WV cv hv 0)/\BK (λb=>w.heap.size<=b/\b<w.heap.size+3) w' cv xlV.cz/\BP (λb=>w.heap.size<=b/\b<w.heap.size+3) w' hv []/\w.heap.size+3<=w'.heap.size/\qY w w':=by
 go_enter Tryz.func35,Tryz.ntmps35;go_wp2;refine Bt (v:=WV (qS (some (O (w.heap.size+1+1) 0)) 4 4) (qN) 0) ?_ rfl ⟨_,_,rfl,?_,GZ,by simp,DW _ _ _ _⟩
 ·simp[results,Tryz.results35,go_sem]
 refine Cells.row (cs:=xqn (qG (w.heap.size+1) 5 5)) (xmq ?_) Bw (by omega) (Dh _ _ _ (by simp)) rfl (by decide) (by unfold maxLen;omega) (by decide);refine IsRow.later ?_ xbj (Bg _ _);exact Cells.row xmx xbj (by omega) (Dh _ _ _ (by simp)) rfl (by decide) (by unfold maxLen;omega) (by decide)
theorem xrn:(Tryz.prog.info? 43).map (λi=>(i.zero,i.size,i.bytes))=some (some (.agg #[J 0,J 0,J 0,J 0]),4,32):=by kernel_rfl
theorem xjn (n:Nat)(a:n*32<=281474976710656):Lz 32 43 #[J 0,J 0,J 0,J 0] 4 n:=λw=>xgb Tryz.underlying32 xrn (by omega) n a rfl w
abbrev xcU:Sn:=⟨xlV,[],[],[]⟩
theorem Gq {α:Type}{E:CT α}{sz bytes:Nat}{P:Nat->Prop}{w:qW}:IsRow E sz bytes P w (qN) ([]:List α):=⟨none,0,rfl,Bq _,by unfold maxLen;omega,by simp,λi x a=>by simp at a⟩
theorem xpJ (w:qW):Calls Tryz.prog 15 #[] w λe w'=>∃cv hv,e=.returned (Hf cv hv 0 (.slice none 0 0) (.slice none 0 0) (.slice none 0 0))/\SesAt (λb=>w.heap.size<=b/\b<w'.heap.size) w' cv hv (.slice none 0 0) (.slice none 0 0) xcU/\qY w w':=by
 have g:(w.alloc (.cells #[.slice none 0 0,.slice none 0 0,.int .i64 0,.slice none 0 0,.slice none 0 0,.slice none 0 0] 31)).heap[w.heap.size]?=some (.cells #[.slice none 0 0,.slice none 0 0,.int .i64 0,.slice none 0 0,.slice none 0 0,.slice none 0 0] 31):=BH _ _;go_enter Tryz.func15,Tryz.ntmps15;go_wp2_with fail;refine (xpN _).mono ?_;rintro e w1 ⟨cv,hv,rfl,k,i,n,d⟩;have f:=Bh (Bg w _) d;obtain⟨a1,k1,rfl,-⟩:=id k;obtain⟨a2,k2,rfl,-⟩:=id i;obtain⟨rf,r0,r1,r2,r3,r4,r5⟩:=EH (Bs g d);obtain⟨-,a⟩:=Mm (Bs g d) (.slice a1 xlV.cz.length k1) (.slice a2 ([]:List QO).length k2) (.int .i64 0) (.slice none 0 0) (.slice none 0 0) (.slice none 0 0);have m:w.heap.size<(w.alloc (.cells #[.slice none 0 0,.slice none 0 0,.int .i64 0,.slice none 0 0,.slice none 0 0,.slice none 0 0] 31)).heap.size:=by simp
 obtain⟨F,c⟩:∃F,((((((w1.setCell ⟨w.heap.size,0,none⟩ (.slice a1 xlV.cz.length k1)).setCell ⟨w.heap.size,1,none⟩ (.slice a2 ([]:List QO).length k2)).setCell ⟨w.heap.size,2,none⟩ (.int .i64 0)).setCell ⟨w.heap.size,3,none⟩ (.slice none 0 0)).setCell ⟨w.heap.size,4,none⟩ (.slice none 0 0)).setCell ⟨w.heap.size,5,none⟩ (.slice none 0 0))=F:=⟨_,rfl⟩;rw[c] at a;have l:=a.size;have j:=hid (show SesAt (λb=>w.heap.size<=b/\b<F.heap.size) F _ _ (.slice none 0 0) (.slice none 0 0) xcU/\qY w F from ⟨⟨k.keep Bw (a.keeps (by omega)) λb h=>by omega,i.keep BB (a.keeps (by omega)) λb h=>by omega,Gq,Gq⟩,f.trans (a.below (Bq _))⟩);rw[← c] at j;clear c;go_wp2;refine Bt (v:=Hf (.slice a1 xlV.cz.length k1) (.slice a2 ([]:List QO).length k2) 0 (.slice none 0 0) (.slice none 0 0) (.slice none 0 0)) ?_ rfl ⟨_,_,rfl,j.out⟩;simp[results,Tryz.results15,go_sem,r0,r1,r2,r3,r4,r5]
theorem xdv:∀(l:List StE) (s:Sn),(GR s l).length=l.length
 | [],_=>rfl
 | x :: l,s=>by simp[GR,xdv l]
theorem xhd:∀(l:List StE) (s:Sn) (j:Nat) (x:StE),l[j]?=some x->(GR s l)[j]?=some (Cg (Ek s (l.take j)) x).2
 | [],_,_,_,h=>by simp at h
 | y :: l,s,0,x,h=>by
  simp at h;subst h;rfl
 | y :: l,s,j+1,x,h=>by
  have:=xhd l (Cg s y).1 j x (by simpa using h);show (GR (Cg s y).1 l)[j]?=_;rw[this];rfl
theorem xmZ {l:List StE}{s:Sn}{j:Nat}{x:StE}(h:l[j]?=some x):Ek s (l.take (j+1))=(Cg (Ek s (l.take j)) x).1:=by
 have:l.take (j+1)=l.take j++[x]:=by
  rw[List.take_add_one,h];rfl
 rw[this];unfold Ek;rw[List.foldl_append];rfl
structure PlayQ (l:List StE)(w:qW)(gr sb:Nat)(j:Nat)(wr:qW)(s:Sn)(cv hv lv tv sv:Value):Prop where
 st:s=Ek xcU (l.take j)
 inv:SInv j s
 few:Hg s (400+401*(l.length-j))
 bel:qY w wr
 box:wr.heap[sb]?=some (DR cv hv s.X.ez lv tv sv)
 ses:SesAt (λb=>w.heap.size<=b/\b≠sb/\b≠gr/\b≠w.heap.size) wr cv hv lv tv s
 sav:SvAt (λb=>w.heap.size<=b/\b≠sb/\b≠gr/\b≠w.heap.size) wr sv s.saved
 own:OwnSt Nc 4 43 wr gr (GR xcU l) j
 res:wr.heap[w.heap.size]?=some (qM)
 ls:w.heap.size<sb/\sb<gr/\gr<wr.heap.size
theorem xvV {l:List StE}{w W Z Y:qW}{gr sb j:Nat}{R:Sn × ReE}{cv hv lv tv sv:Value}(p:R.1=Ek xcU (l.take (j+1)))(c:SInv (j+1) R.1)(g:Hg R.1 (400+401*(l.length-(j+1))))(e:qY w Z)(a:Chg sb Z Y)(u:Y.heap[sb]?=some (DR cv hv R.1.X.ez lv tv sv))(m:SesAt (λb=>W.heap.size<=b) Z cv hv lv tv R.1)(i:SvAt (λb=>W.heap.size<=b) Z sv R.1.saved)(d:OwnSt Nc 4 43 Z gr (GR xcU l) j)(o:(GR xcU l)[j]?=some R.2)(f:Z.heap[w.heap.size]?=some (qM))(t:w.heap.size<sb)(s:sb<gr)(C:gr<W.heap.size/\W.heap.size<=Z.heap.size) :
  PlayQ l w gr sb (j+1) (((((Y.setCell (O gr (j*4)) (J R.2.err)).setCell (O gr (j*4+1)) (J R.2.n)).setCell (O gr (j*4+2)) (J R.2.v.k)).setCell (O gr (j*4+3)) (J R.2.v.n))) R.1 cv hv lv tv sv:=by
 have q:Chg gr Y (((((Y.setCell (O gr (j*4)) (J R.2.err)).setCell (O gr (j*4+1)) (J R.2.n)).setCell (O gr (j*4+2)) (J R.2.v.k)).setCell (O gr (j*4+3)) (J R.2.v.n))):=((((Chg.refl _ _).set _ _).set _ _).set _ _).set _ _;have B:=a.size;have z:OwnSt Nc 4 43 Y gr (GR xcU l) j:=d.ofBlock Nt (by omega) λb h _=>a.blk b (by omega);have r:OwnSt Nc 4 43 (((((Y.setCell (O gr (j*4)) (J R.2.err)).setCell (O gr (j*4+1)) (J R.2.n)).setCell (O gr (j*4+2)) (J R.2.v.k)).setCell (O gr (j*4+3)) (J R.2.v.n))) gr (GR xcU l) (j+1):=z.step Nt o (vs:=[J R.2.err,J R.2.n,J R.2.v.k,J R.2.v.n]) rfl ⟨rfl,rfl,rfl,rfl⟩;generalize ((((Y.setCell (O gr (j*4)) (J R.2.err)).setCell (O gr (j*4+1)) (J R.2.n)).setCell (O gr (j*4+2)) (J R.2.v.k)).setCell (O gr (j*4+3)) (J R.2.v.n))=F at *;have y:=q.size;exact⟨p,c,g,(e.trans (a.below (by omega))).trans (q.below (by omega)),q.held u (by omega),(m.keep (a.keeps (by omega)) λ_ h=>h).keep (q.keeps (by omega)) λb h=>by omega,(i.keep (a.keeps (by omega)) λ_ h=>h).keep (q.keeps (by omega)) λb h=>by omega,r,q.held (a.held f (by omega)) (by omega),t,s,by omega⟩
theorem xw3 {P:Nat->Prop}(l:List StE)(a7:l.length<=60)(v:Value)(w:qW)(hl:Ps P w v l)(hV:VarsB w.heap.size w) :
  Calls Tryz.prog 11 #[v] w λe w'=>∃(cv hv lv tv sv:Value) (g:Nat),e=.returned (.tuple #[Hf cv hv (Ek xcU l).X.ez lv tv sv,qG g l.length l.length,J 0])/\SesAt (λb=>w.heap.size<=b) w' cv hv lv tv (Ek xcU l)/\SvAt (λb=>w.heap.size<=b) w' sv (Ek xcU l).saved/\xhg (λb=>w.heap.size<=b) w' (qG g l.length l.length) (GR xcU l)/\qY w w':=by
 obtain⟨ad,cap,rfl,a8,a5,ae,m⟩:=hl;have bd:=xjn l.length (by omega);have be:¬ (60:Int)<(l.length:Int):=by omega
 have ax:(w.alloc (qM)).heap[w.heap.size]?=some (qM):=BH _ _;have hn:=λw'=>xpJ w';go_enter Tryz.func11,Tryz.ntmps11;go_wp2_with fail;refine (hn _).mono ?_;rintro e w1 ⟨cv,hv,rfl,hS,hb⟩;obtain⟨a1,k1,rfl,-⟩:=id hS.c;obtain⟨a2,k2,rfl,-⟩:=id hS.h;replace ax:=Bs ax hb;have ay:=Bh (Bg w _) hb;have bg:w.heap.size<w1.heap.size:=by have:=hb.size;simp at this;omega
 clear hb hn;have az:SesAt (λb=>w.heap.size<=b/\b<w1.heap.size/\b≠w.heap.size) w1 (qS a1 xlV.cz.length k1) (qS a2 xlV.heap.length k2) (qN) (qN) xcU:=hS.keep (Keeps.refl _ _) λb h=>by simp at h;omega
 clear hS;go_wp2
 go_loopg [19] l.length (λg c wr=>∃(j:Nat) (s:Sn) (cv hv lv tv sv:Value),j+g=l.length/\c=J j/\PlayQ l w (w1.heap.size+1) w1.heap.size j wr s cv hv lv tv sv)
 case atStart=>
  refine⟨0,xcU,_,_,_,_,_,by omega,rfl,rfl,xiT,xqO.mono (by omega),Bh ay (BG _ _ _),Bs (BH w1 _) (Bg _ _),az.keep (Keeps.of_below (BG _ _ _)) λb h=>by omega,SvAt.nil,?_,Bs ax (BG _ _ _),by simp;omega⟩;refine⟨⟨_,Dh _ _ _ (by simp),?_⟩,λi x hi=>by omega⟩;rw[size_madeCells,xdv]
 case round=>
  obtain⟨j,s,cv,hv,lv,tv,sv,hj,rfl,hP⟩:=hrel;clear bd az ax ay;obtain⟨G,a6,a4⟩:=hP.ls;obtain⟨ac,cc,rfl,-⟩:=id hP.ses.c;obtain⟨ah,ch,rfl,-⟩:=id hP.ses.h;obtain⟨al,kl,rfl,-⟩:=id hP.ses.l;obtain⟨at',kt,rfl,-⟩:=id hP.ses.t;obtain⟨B,z,rfl⟩:=hP.sav.get;have HP:=hid hP;obtain⟨sf,s0,s1,s2,s3,s4,s5⟩:=EH hP.box;by_cases hlt:j<l.length
  ·obtain⟨b,o,rfl,-,y,K,C,L,N,S,H,D,T,r,q,hN,mv,av,M,hM,u,hA⟩:=m j l[j] (by simp[hlt]);have b7:Hid (l[j]?=some l[j]):=by show _=_;simp[hlt]
   generalize l[j]=x at *;simp only[Nat.add_zero] at y;have u0:=Bf hP.bel y;have u1:=Bf hP.bel K;have u2:=Bf hP.bel C;have u3:=Bf hP.bel L;have u4:=Bf hP.bel N;have u5:=Bf hP.bel S;have u6:=Bf hP.bel H;have u7:=Bf hP.bel D;have u8:=Bf hP.bel M;have u9:=Bf hP.bel T;have u10:=Bf hP.bel r;have u11:=Bf hP.bel q;have u12:=Bf hP.bel u;replace hM:=hM.later BR hP.bel;replace hA:=hA.later BZ hP.bel;obtain⟨am,cm,rfl,-⟩:=id hM;obtain⟨aa,ca,rfl,-⟩:=id hA;clear y K C L N S H D M T r q u m hP;have bf:(j:Int)<(l.length:Int):=by omega
   have bh:(0:Int)<=(j:Int):=by omega
   have ak:=Bg wr (qB x am cm aa ca);have b8:=Pb s HP.out.inv (by omega) (HP.out.few.mono (by omega)) x hN (qS ac s.X.cz.length cc) (qS ah s.X.heap.length ch) (qS al s.cells.length kl) (qS at' s.ts.length kt) (qS B s.saved.length z) _ _ _ (HP.out.ses.keep (Keeps.of_below ak) λ_ h=>h) (HP.out.sav.keep (Keeps.of_below ak) λ_ h=>h) ((hV.on (HP.out.bel.trans (ak.mono HP.out.bel.size))).mono (BX HP.out.bel.size ak.size)) (hM.later BR ak) (hA.later BZ ak);have ar:=Bs HP.out.box ak;have ba:(wr.alloc (qB x am cm aa ca)).heap[wr.heap.size]?=some (qB x am cm aa ca):=BH _ _;have ao:=HP.out.own.later Nt ak;have au:=Bs HP.out.res ak;have ap:=HP.out.bel.trans (ak.mono (by have:=HP.out.bel.size;omega));have bi:(wr.alloc (qB x am cm aa ca)).heap.size=wr.heap.size+1:=by simp
   clear sf s0 s1 s2 s3 s4 s5;go_upto_region 8 with (fail);clear u0 u1 u2 u3 u4 u5 u6 u7 u8 u9 u10 u11 u12 ak hM hA;generalize wr.alloc (qB x am cm aa ca)=W at *;obtain⟨-,s0,s1,s2,s3,s4,s5⟩:=EH ar;obtain⟨p0,p1,p2,p3,p4,p5,p6,p7,p8,p9,a0,U,Y⟩:=QN ba
   have b9:Hid ((GR xcU l)[j]?=some (Cg s x).2):=by
    show _=_;rw[xhd l xcU j x b7.out,← HP.out.st]
   have bc:Hid ((Cg s x).1=Ek xcU (l.take (j+1))):=by
    show _=_;rw[xmZ b7.out,← HP.out.st]
   have b0:Hid (SInv (j+1) (Cg s x).1):=(Nd HP.out.inv (by omega) x).inv;have b6:Hid (Hg (Cg s x).1 (400+401*(l.length-(j+1)))):=xsc HP.out.inv (HP.out.few.mono (by omega)) x;generalize Cg s x=R at *;go_wp2_with fail;refine b8.mono ?_;rintro e Z ⟨af,a9,aj,ag,ai,rfl,d,F,a⟩;obtain⟨b1,j1,rfl,-⟩:=id d.c;obtain⟨b2,j2,rfl,-⟩:=id d.h;obtain⟨b3,j3,rfl,-⟩:=id d.l;obtain⟨b4,j4,rfl,-⟩:=id d.t;obtain⟨b5,j5,rfl⟩:=F.get;clear s0 s1 s2 s3 s4 s5 p0 p1 p2 p3 p4 p5 p6 p7 p8 p9 a0 U Y b8;replace ar:=Bs ar a;replace ao:=ao.later Nt a;replace au:=Bs au a;replace ap:=ap.trans (a.mono (by have:=ap.size;omega));have bj:=a.size;obtain⟨sf,s0,s1,s2,s3,s4,s5⟩:=EH ar;obtain⟨hY,V⟩:=Mm ar (qS b1 R.1.X.cz.length j1) (qS b2 R.1.X.heap.length j2) (J R.1.X.ez) (qS b3 R.1.cells.length j3) (qS b4 R.1.ts.length j4) (qS b5 R.1.saved.length j5);obtain⟨⟨cur,f,a3⟩,ab⟩:=id ao;rw[xdv] at a3;have f1:∀o,Z.frozen? (O (w1.heap.size+1) o)=false:=BN f;have e0:Z.cell? (O (w1.heap.size+1) (j*4))=some (cur[j*4]'(by omega)):=(by rw[Bn f];simp)
   have e1:Z.cell? (O (w1.heap.size+1) (j*4+1))=some (cur[j*4+1]'(by omega)):=(by rw[Bn f];simp)
   have e2:Z.cell? (O (w1.heap.size+1) (j*4+2))=some (cur[j*4+2]'(by omega)):=(by rw[Bn f];simp)
   have e3:Z.cell? (O (w1.heap.size+1) (j*4+3))=some (cur[j*4+3]'(by omega)):=(by rw[Bn f];simp)
   clear a;go_wp2;go_roundg (gk-1)
   case measure=>omega
   case rel=>exact⟨j+1,R.1,_,_,_,_,_,by omega,by go_num,xvV (W:=W) bc.out b0.out b6.out ap V hY d F ao b9.out au G (by omega) (by omega)⟩
  obtain rfl:j=l.length:=by omega
  have bb:Hid (s=Ek xcU l):=by
   show _=_;rw[hP.st,List.take_length]
  obtain⟨rf,r0,r1,r2,r3,r4,r5⟩:=EH hP.res;obtain⟨hF,p⟩:=Mm hP.res (qS ac s.X.cz.length cc) (qS ah s.X.heap.length ch) (J s.X.ez) (qS al s.cells.length kl) (qS at' s.ts.length kt) (qS B s.saved.length z);have aw:=xdv l xcU;have aq:OwnSt Nc 4 43 wr (w1.heap.size+1) (GR xcU l) (GR xcU l).length:=by rw[aw];exact hP.own
  have an:=aq.row (bytes:=32) Nt (by rw[aw];omega) (by omega);rw[aw] at an;clear aw aq;have HF:=hid (And.intro (hP.ses.keep (Q:=λb=>w.heap.size<=b) (p.keeps (by omega)) λb h=>h.1) <| And.intro (hP.sav.keep (Q:=λb=>w.heap.size<=b) (p.keeps (by omega)) λb h=>h.1) (And.intro (an.keep Nt (Q:=λb=>w.heap.size<=b) (p.keeps (by omega)) λb h=>by omega) (hP.bel.trans (p.below (Bq _)))));clear an m hP HP;go_wp2;refine Bt (v:=.tuple #[Hf (qS ac s.X.cz.length cc) (qS ah s.X.heap.length ch) s.X.ez (qS al s.cells.length kl) (qS at' s.ts.length kt) (qS B s.saved.length z),qG (w1.heap.size+1) l.length l.length,J 0]) ?_ rfl (by rw[← bb.out];exact⟨_,_,_,_,_,_,rfl,HF.out⟩);simp[results,Tryz.results11,go_sem,r0,r1,r2,r3,r4,r5]
set_option maxRecDepth 100000
abbrev zMe:QM:=⟨⟨#[]⟩,0,0,0,[]⟩
abbrev EM (k c sl:Int)(name:ByteArray)(v:QV)(cn:ByteArray)(args:List QV):StE:=⟨k,c,sl,name,zMe,v,cn,args⟩
abbrev noB:ByteArray:=⟨#[]⟩
def xuq:List StE:=[EM 1 0 1 ⟨#[65]⟩ BC noB [],EM 3 4 0 noB BC noB [],EM 7 0 0 noB BC noB [],EM 4 0 0 noB ⟨3,2⟩ ⟨#[43]⟩ [⟨3,5⟩],EM 8 0 0 noB BC noB []]
theorem xuT:GR ⟨xlV,[],[],[]⟩ xuq=[⟨0,4,BC⟩,⟨0,0,⟨4,0⟩⟩,⟨0,117,BC⟩,⟨0,1,⟨3,7⟩⟩,⟨0,0,BC⟩]:=by kernel_rfl
theorem xvy:(Ek ⟨xlV,[],[],[]⟩ xuq).X.heap.length=1:=by kernel_rfl
theorem xuR:(Ek ⟨xlV,[],[],[]⟩ xuq).X.cz.length=5:=by kernel_rfl
set_option maxRecDepth 8000
theorem SesAt.inn {P:Nat->Prop}{w:qW}{cv hv lv tv:Value}{s:Sn}(h:SesAt P w cv hv lv tv s):SesAt (λb=>P b/\b<w.heap.size) w cv hv lv tv s:=⟨h.c.inn Bw λ_ _=>xxV,h.h.inn BB λ_ _=>xxU,h.l.inn Dc λ_ _=>innE,h.t.inn xbD λ_ _=>innT⟩
theorem SvAt.inn {P:Nat->Prop}{w:qW}{v:Value}{l:List UInt8}(h:SvAt P w v l):SvAt (λb=>P b/\b<w.heap.size) w v l:=⟨h.1.inn xxa λ_ _ h=>h,h.2⟩
def HasS (P:Nat->Prop)(w:qW)(sb:Nat)(s:Sn):Prop:=∃cv hv lv tv sv,w.heap[sb]?=some (DR cv hv s.X.ez lv tv sv)/\SesAt (λb=>P b/\b≠sb/\b<w.heap.size) w cv hv lv tv s/\SvAt (λb=>P b/\b≠sb/\b<w.heap.size) w sv s.saved
theorem HasS.keep {P Q:Nat->Prop}{w w':qW}{sb:Nat}{s:Sn}(h:HasS P w sb s)(f:∀b,(P b\/b=sb)->b<w.heap.size->w'.heap[b]?=w.heap[b]?)(j:w.heap.size<=w'.heap.size)(a:∀b,P b->b<w.heap.size->Q b):HasS Q w' sb s:=by
 obtain⟨cv,hv,lv,tv,sv,c,g,i⟩:=h;have d:Keeps (λb=>P b/\b≠sb/\b<w.heap.size) w w':=Keeps.of_block λb h a=>f b (.inl h.1) a;have e:∀b,(P b/\b≠sb/\b<w.heap.size)->(Q b/\b≠sb/\b<w'.heap.size):=λb h=>⟨a b h.1 h.2.2,h.2.1,by omega⟩
 exact⟨cv,hv,lv,tv,sv,(f sb (.inr rfl) (By c)).trans c,g.keep d e,i.keep d e⟩
theorem HasS.later {P:Nat->Prop}{w w':qW}{sb:Nat}{s:Sn}(h:HasS P w sb s)(a:qY w w'):HasS P w' sb s:=h.keep (λb _ c=>a.block b c) a.size λ_ h _=>h
theorem HasS.mono {P Q:Nat->Prop}{w:qW}{sb:Nat}{s:Sn}(h:HasS P w sb s)(a:∀b,P b->b<w.heap.size->Q b):HasS Q w sb s:=h.keep (λ_ _ _=>rfl) (Bq _) a
theorem xwj {n:Nat}{Z:qW}{cv hv lv tv sv:Value}{s:Sn}(a:SesAt (λb=>n<=b) Z cv hv lv tv s)(c:SvAt (λb=>n<=b) Z sv s.saved):HasS (λb=>n<=b) (Z.alloc (qC #[cv,hv,J s.X.ez,lv,tv,sv] 31)) Z.heap.size s:=by
 have d:=Bg Z (qC #[cv,hv,J s.X.ez,lv,tv,sv] 31);exact⟨cv,hv,lv,tv,sv,BH _ _,a.inn.keep (Keeps.of_below d) λb h=>⟨h.1,by omega,by simp;omega⟩,c.inn.keep (Keeps.of_below d) λb h=>⟨h.1,by omega,by simp;omega⟩⟩
theorem xxE {n sb:Nat}{Z Y:qW}{cv hv lv tv sv:Value}{s:Sn}(a:SesAt (λb=>n<=b) Z cv hv lv tv s)(c:SvAt (λb=>n<=b) Z sv s.saved)(e:Chg sb Z Y)(f:Y.heap[sb]?=some (DR cv hv s.X.ez lv tv sv))(i:sb<n):HasS (λb=>n<=b) Y sb s:=by
 have d:Keeps (λb=>n<=b/\b<Z.heap.size) Z Y:=e.keeps (by omega);have g:=e.size;exact⟨cv,hv,lv,tv,sv,f,a.inn.keep d λb h=>⟨h.1,by omega,by omega⟩,c.inn.keep d λb h=>⟨h.1,by omega,by omega⟩⟩
def xdV (x:StE)(mv av:Value):List Value:=[J x.kind,qZ x.name,J x.cls,J x.slots,qZ x.meth.name,J x.meth.args,J x.meth.temps,J x.meth.prim,mv,J x.sf.k,J x.sf.n,qZ x.cname,av]
theorem QK {P:Nat->Prop}{w:qW}{x:StE}{mv av:Value}(a:NamesOk x)(c:Cm P w mv x.meth.code)(b:CG P w av x.args):Cells xrV 13 P w (xdV x mv av) [x]:=
 Cells.one MG rfl ⟨rfl,rfl,rfl,rfl,rfl,rfl,rfl,rfl,rfl,rfl,rfl,a,mv,av,rfl,c,rfl,b⟩
theorem xgc {P:Nat->Prop}{w:qW}{g:Nat}{v:QV}{t:TypeId}(b:w.heap[g]?=some (qC #[J v.k,J v.n] t (0,0)))(a:P g):CG P w (qG g 1 1) [v]:=
 Cells.row (cs:=[J v.k,J v.n]) (Cells.one BZ rfl ⟨rfl,rfl⟩) BZ a b rfl (Bq _) (by unfold maxLen;omega) (by simp)
theorem xl5 {x:StE}(h:x.name.size<=100/\x.meth.name.size<=100/\x.cname.size<=100):NamesOk x:=⟨by omega,by omega,by omega⟩
theorem xlM {P:Nat->Prop}{w:qW}{g n c:Nat}{rs:List ReE}(h:xhg P w (qG g n c) rs){j:Nat}{r:ReE}(l:rs[j]?=some r):w.cell? (O g (j*4))=some (J r.err)/\w.cell? (O g (j*4+1))=some (J r.n)/\w.cell? (O g (j*4+2))=some (J r.v.k)/\w.cell? (O g (j*4+3))=some (J r.v.n):=by
 obtain⟨ad,cap,e,-,-,-,m⟩:=h;simp only[Value.slice.injEq] at e;obtain⟨rfl,-,-⟩:=e;obtain⟨b,o,e,-,d,a,f,i⟩:=m j r l;simp only[Option.some.injEq,Addr.mk.injEq] at e;obtain⟨rfl,rfl,-⟩:=e;simp only[Nat.zero_add,Nat.add_zero] at d a f i;exact⟨d,a,f,i⟩
theorem xvj {n:Nat}:∀(l:List StE) (i:Nat) (s:Sn),SInv i s->i+l.length<=1000->Hg s (n+401*l.length)->Hg (Ek s l) n
 | [],_,_,_,_,h=>h
 | x :: l,i,s,hI,hl,h=>by
  simp only[List.length_cons] at hl h;exact xvj l (i+1) _ (Nd hI (by omega) x).inv (by omega) (xsc hI (h.mono (by omega)) x)
theorem xxO:(Tryz.prog.info? 26).map (λi=>(i.zero,i.size,i.bytes))=some (some (.agg #[qN,qN,J 0]),3,56):=by kernel_rfl
theorem xxv (a b c d e f:Value)(w:qW):(Instr.field 31 (.agg #[a,b,c,d,e,f]) 0).run Tryz.prog w=.ok (.agg #[a,b,c]) w:=by
 obtain⟨i0,j,i,g,h⟩:=Gb xxO;simp[Instr.field,run_underlying Tryz.underlying31,part,sizeOf,typeInfo,j,g,asAgg]
theorem xxh (s:Sn):Cg s (EM 0 0 0 noB BC noB [])=(s,Ct 1 0):=by unfold Cg;simp
theorem NH {k c sl:Int}{v:QV}{a:List QV}:NamesOk (EM k c sl noB v noB a):=xl5 ⟨by show noB.size<=100;decide,by show noB.size<=100;decide,by show noB.size<=100;decide⟩
theorem xxF (w:qW)(hV:Vars w):Calls Tryz.prog 17 #[] w λe w'=>e=.returned (.bool true)/\qY w w':=by
 have hG:∀o,((w.alloc (qC #[J 3,J 5] 41)).alloc o).heap[w.heap.size]?=some (qC #[J 3,J 5] 41 (0,0)):=λo=>Bs (BH w _) (Bg _ _);have hp:=λ(w':qW) (v:Value) (h:Ps (λb=>w.heap.size<=b) w' v xuq) (W:qY w w')=>xw3 xuq (by decide) v w' h ((hV.from.on W).mono W.size);go_enter Tryz.func17,Tryz.ntmps17;go_wp2_with fail;refine (hp _ _ ?_ (BG _ _ _)).mono ?_
 ·refine Cells.row (((((QK (x:=EM 1 0 1 ⟨#[65]⟩ BC noB []) (xl5 ⟨by decide,by decide,by decide⟩) Gq Gq).append MG (QK (x:=EM 3 4 0 noB BC noB []) NH Gq Gq)).append MG (QK (x:=EM 7 0 0 noB BC noB []) NH Gq Gq)).append MG (QK (x:=EM 4 0 0 noB ⟨3,2⟩ ⟨#[43]⟩ [⟨3,5⟩]) (xl5 ⟨by decide,by decide,by decide⟩) Gq (xgc (v:=⟨3,5⟩) (hG _) (Bq _)))).append MG (QK (x:=EM 8 0 0 noB BC noB []) NH Gq Gq)) MG ?_ (Dh _ _ _ (by simp)) ?_ (Bq _) (by unfold maxLen;decide) (by decide)
  ·simp
  rfl
 rintro e Z ⟨cv,hv,lv,tv,sv,g,rfl,N,T,a,R⟩;have W:=Bh (BG w _ _) R;rw[xuT] at a;obtain⟨-,q1,-,-⟩:=xlM a (j:=0) rfl;obtain⟨-,-,-,q7⟩:=xlM a (j:=3) rfl;obtain⟨q8,-,-,-⟩:=xlM a (j:=4) rfl;have a6:Hg (Ek xcU xuq) 400:=xvj xuq 0 xcU xiT (by decide) (xqO.mono (by decide));have a7:=hid xuR;have a9:=hid xvy;generalize Ek xcU xuq=S at *;obtain⟨b1,j1,rfl,-⟩:=id N.c;obtain⟨b2,j2,rfl,-⟩:=id N.h;obtain⟨b3,j3,rfl,-⟩:=id N.l;obtain⟨b4,j4,rfl,-⟩:=id N.t;obtain⟨sa,sc,rfl⟩:=T.get;clear a hp hG R;have Y:=Bg Z (qF S b1 j1 b2 j2 b3 j3 b4 j4 (qS sa S.saved.length sc));have a1:(Z.alloc (qF S b1 j1 b2 j2 b3 j3 b4 j4 (qS sa S.saved.length sc))).heap[Z.heap.size]?=some (qF S b1 j1 b2 j2 b3 j3 b4 j4 (qS sa S.saved.length sc)):=BH _ _;have a2:Z.heap.size<(Z.alloc (qF S b1 j1 b2 j2 b3 j3 b4 j4 (qS sa S.saved.length sc))).heap.size:=by simp
 replace q1:=Bf Y q1;replace q7:=Bf Y q7;replace q8:=Bf Y q8;replace N:=N.keep (Keeps.of_below Y) λ_ h=>h;replace T:=T.keep (Keeps.of_below Y) λ_ h=>h;replace W:=Bh W Y;go_upto_region 2 with (fail);clear Y;generalize (Z.alloc (qF S b1 j1 b2 j2 b3 j3 b4 j4 (qS sa S.saved.length sc)))=U at *;generalize Z.heap.size=bs at *;go_wp2_with fail;refine (xpJ U).mono ?_;rintro e U1 ⟨r,s,rfl,n,R⟩;replace q1:=Bf R q1;replace q7:=Bf R q7;replace q8:=Bf R q8;replace N:=N.keep (Keeps.of_below R) λ_ h=>h;replace T:=T.keep (Keeps.of_below R) λ_ h=>h;replace a1:=Bs a1 R;replace a2:=Cd a2 R.size;replace W:=Bh W R;clear R;have a4:=Pb (Q:=λ_=>True) xcU xiT (by decide) (xqO.mono (by decide)) (EM 0 0 0 noB BC noB []) NH r s (qN) (qN) (qN) (qN) (qN) U1 n SvAt.nil ((hV.from.on W).mono W.size) Gq Gq;rw[xxh] at a4;obtain⟨b5,j5,rfl,-⟩:=id n.c;obtain⟨b6,j6,rfl,-⟩:=id n.h;go_wp2_with fail;refine a4.mono ?_;rintro e U2 ⟨M,z,y,K,L,rfl,d,q,R⟩;replace q1:=Bf R q1;replace q7:=Bf R q7;replace q8:=Bf R q8;replace N:=N.keep (Keeps.of_below R) λ_ h=>h;replace T:=T.keep (Keeps.of_below R) λ_ h=>h
 replace a1:=Bs a1 R;replace a2:=Cd a2 R.size;replace W:=Bh W R;clear R a4;obtain⟨b7,j7,rfl,-⟩:=id d.c;obtain⟨b8,j8,rfl,-⟩:=id d.h;obtain⟨b9,j9,rfl,-⟩:=id d.l;obtain⟨k,m,rfl,-⟩:=id d.t;obtain⟨i,f,rfl⟩:=q.get;clear n d q;have a3:=λ(w':qW) (W:qY U2 w')=>xvF S a6 (qS b1 S.X.cz.length j1) (qS b2 S.X.heap.length j2) (qS b3 S.cells.length j3) (qS b4 S.ts.length j4) (qS sa S.saved.length sc) w' (N.keep (Keeps.of_below W) λ_ h=>h) (T.keep (Keeps.of_below W) λ_ h=>h);have a0:=BG U2 (qF xcU b7 j7 b8 j8 b9 j9 k m (qS i xcU.saved.length f)) (qC #[J 1,J 0,J 0,J 0] 43);have a8:((U2.alloc (qF xcU b7 j7 b8 j8 b9 j9 k m (qS i xcU.saved.length f))).alloc (qC #[J 1,J 0,J 0,J 0] 43)).heap[U2.heap.size]?=some (qF xcU b7 j7 b8 j8 b9 j9 k m (qS i xcU.saved.length f)):=Bs (BH _ _) (Bg _ _);have aa:((U2.alloc (qF xcU b7 j7 b8 j8 b9 j9 k m (qS i xcU.saved.length f))).alloc (qC #[J 1,J 0,J 0,J 0] 43)).heap[U2.heap.size+1]?=some (qC #[J 1,J 0,J 0,J 0] 43 (0,0)):=Dh _ _ _ (by simp);have a5:=a3 _ a0;replace q1:=Bf a0 q1;replace q7:=Bf a0 q7;replace q8:=Bf a0 q8;replace a1:=Bs a1 a0;replace W:=Bh W a0;clear a3 N T;go_upto_region 3 with (fail)
 clear a0;generalize ((U2.alloc (qF xcU b7 j7 b8 j8 b9 j9 k m (qS i xcU.saved.length f))).alloc (qC #[J 1,J 0,J 0,J 0] 43))=V at *;generalize U2.heap.size=n2 at *;obtain⟨-,s0,s1,s2,s3,s4,s5⟩:=EH a1;obtain⟨-,t0,t1,t2,t3,t4,t5⟩:=EH a8;obtain⟨-,r0,r1,r2,r3⟩:=Ec aa;rw[show xcU.X.cz.length=4 from rfl] at t0;rw[a7.out] at a5 s0;rw[a9.out] at a5 s1;have ab:xuq.length=5:=rfl;go_wp2_with fail;refine a5.mono ?_;rintro e V2 ⟨C,G,B,F,H,rfl,p,u,R⟩;obtain⟨c1,c2,rfl,-⟩:=id p.c;obtain⟨c3,c4,rfl,-⟩:=id p.h;obtain⟨c5,c6,rfl,-⟩:=id p.l;obtain⟨c7,c8,rfl,-⟩:=id p.t;obtain⟨c9,D,rfl⟩:=u.get;have h5:=a7.out;have f1:=xxv;have f2:=xvw;go_wp2;refine Bt (v:=.bool true) ?_ rfl ⟨rfl,Bh W R⟩;simp[results,Tryz.results17,go_sem]
theorem xvb {P Q:Nat->Prop}(xs:List QI)(va vb:Value)(w:qW)(r:Cm P w va xs)(s:Cm Q w vb xs):Calls Tryz.prog 36 #[va,vb] w λe w'=>e=.returned (.bool true)/\qY w w':=by
 obtain⟨ad,cap,rfl,t,h,l,d⟩:=r;obtain⟨k,cap',rfl,m,f,i,a⟩:=s;go_enter Tryz.func36,Tryz.ntmps36;go_wp2
 go_loopg [13] xs.length (λg c wr=>∃j:Nat,j+g=xs.length/\c=J j/\∃n,wr=w.drewN n)
 case atStart=>exact⟨0,by omega,rfl,0,rfl⟩
 case round=>
  obtain⟨j,u,rfl,nn,rfl⟩:=hrel;by_cases hlt:j<xs.length
  ·obtain⟨b,o,rfl,-,q0,q1,q2,q3,q4,-⟩:=d j xs[j] (by simp[hlt]);obtain⟨b',o',rfl,-,k0,k1,k2,k3,k4,-⟩:=a j xs[j] (by simp[hlt]);generalize xs[j]=x at *;simp only[Nat.add_zero] at q0 k0;have p:(j:Int)<(xs.length:Int):=by omega
   have q:(0:Int)<=(j:Int):=by omega
   clear d a;go_wp2;go_quiet (fail);go_wp2;go_roundg (gk-1)
   case measure=>omega
   case rel=>exact⟨j+1,by omega,by go_num,_,rfl⟩
  go_wp2;go_ret;exact⟨rfl,below_drewN (Br _ _) _⟩
set_option maxRecDepth 100000 in
theorem xwT {P Q:Nat->Prop}(X:QW)(ca ha cb hb:Value)(w:qW)(h1:BK P w ca X.cz)(h2:BP P w ha X.heap)(h3:BK Q w cb X.cz)(h4:BP Q w hb X.heap):Calls Tryz.prog 18 #[WV ca ha X.ez,WV cb hb X.ez] w λe w'=>e=.returned (.bool true)/\qY w w':=by
 obtain⟨ad,cap,rfl,hl,S,ao,F⟩:=h1;obtain⟨ah,kh,rfl,ax,a2,az,a7⟩:=h2;obtain⟨i,cap',rfl,b4,K,a8,q⟩:=h3;obtain⟨l,h,rfl,ab,Y,a9,V⟩:=h4;unfold maxLen at S K a2 Y;go_enter Tryz.func18,Tryz.ntmps18;go_wp2;have hW:=BG w (qA ad cap ah kh X) (qA i cap' l h X);have a1:((w.alloc (qA ad cap ah kh X)).alloc (qA i cap' l h X)).cell? (O w.heap.size 1)=some (qS ah X.heap.length kh):=Bf (Bg _ _) (by rw[Bp _ _ _ _ rfl];rfl);have b0:((w.alloc (qA ad cap ah kh X)).alloc (qA i cap' l h X)).cell? (O (w.heap.size+1) 0)=some (qS i X.cz.length cap'):=by rw[Bp _ _ _ _ (by simp)];rfl
 have b1:((w.alloc (qA ad cap ah kh X)).alloc (qA i cap' l h X)).cell? (O (w.heap.size+1) 1)=some (qS l X.heap.length h):=by rw[Bp _ _ _ _ (by simp)];rfl
 generalize ((w.alloc (qA ad cap ah kh X)).alloc (qA i cap' l h X))=W at *
 go_loopg [40] X.cz.length (λg c wr=>∃j:Nat,j+g=X.cz.length/\c=J j/\qY W wr)
 case atStart=>exact⟨0,by omega,rfl,Br _ _⟩
 case round=>
  obtain⟨j,hj,rfl,a⟩:=hrel;have b5:=Bh hW a;have b0':=Bf a b0;by_cases hlt:j<X.cz.length
  ·obtain⟨b,o,rfl,-,p0,p1,p2,-,sv,p3,b8⟩:=F j X.cz[j] (by simp[hlt]);obtain⟨b',o',rfl,-,q0,q1,q2,-,U,q3,b7⟩:=q j X.cz[j] (by simp[hlt]);generalize X.cz[j]=x at *;simp only[Nat.add_zero] at p0 q0;replace p0:=Bf b5 p0;replace p1:=Bf b5 p1;replace p2:=Bf b5 p2;replace p3:=Bf b5 p3;replace q0:=λy=>Bf (Bg wr y) (Bf b5 q0);replace q1:=λy=>Bf (Bg wr y) (Bf b5 q1);replace q2:=λy=>Bf (Bg wr y) (Bf b5 q2);replace q3:=λy=>Bf (Bg wr y) (Bf b5 q3);have b0'':=λy=>Bf (Bg wr y) b0';replace b8:=b8.later xbj b5;replace b7:=b7.later xbj b5;obtain⟨am,km,rfl,ap,a6,ar,v⟩:=id b8;obtain⟨s,t,rfl,ai,R,aj,f⟩:=id b7;unfold maxLen at a6 R;have bc:(j:Int)<(X.cz.length:Int):=by omega
   have bd:(0:Int)<=(j:Int):=by omega
   go_wp2;have ba:=BG wr (qC #[qZ x.name,J x.super,J x.slots,qS am x.mz.length km] 80) (qC #[qZ x.name,J x.super,J x.slots,qS s x.mz.length t] 80);have m1:((wr.alloc (qC #[qZ x.name,J x.super,J x.slots,qS am x.mz.length km] 80)).alloc (qC #[qZ x.name,J x.super,J x.slots,qS s x.mz.length t] 80)).cell? (O (wr.heap.size+1) 3)=some (qS s x.mz.length t):=by rw[Bp _ _ _ _ (by simp)];rfl
   obtain⟨go,a5⟩:∃go,go=gk:=⟨_,rfl⟩;have bb:=Bh a ba;replace b8:=b8.later xbj ba;replace b7:=b7.later xbj ba;clear p0 p1 p2 p3 q0 q1 q2 q3 b0' b0'' v f ba b5 a;generalize G:wr.heap.size+1=Bx at *;generalize ((wr.alloc (qC #[qZ x.name,J x.super,J x.slots,qS am x.mz.length km] 80)).alloc (qC #[qZ x.name,J x.super,J x.slots,qS s x.mz.length t] 80))=W2 at *
   go_loopg [81] x.mz.length (λg c wi=>∃k:Nat,k+g=x.mz.length/\c=J k/\qY W2 wi)
   case atStart=>exact⟨0,by omega,rfl,Br _ _⟩
   case round=>
    obtain⟨k,hk,rfl,p⟩:=hrel;by_cases hkl:k<x.mz.length
    ·obtain⟨aw,an,e0,-,-,-,v⟩:=b8.later xbj p;simp only[Value.slice.injEq] at e0;obtain⟨rfl,-,rfl⟩:=e0;obtain⟨ak,aa,m,-,-,-,f⟩:=b7.later xbj p;simp only[Value.slice.injEq] at m;obtain⟨rfl,-,rfl⟩:=m;obtain⟨b,o,rfl,-,p0,p1,p2,p3,-,sv,p4,N⟩:=v k x.mz[k] (by simp[hkl]);obtain⟨b',o',rfl,-,q0,q1,q2,q3,-,U,q4,D⟩:=f k x.mz[k] (by simp[hkl]);generalize x.mz[k]=y at *;simp only[Nat.add_zero] at p0 q0;replace q0:=λy=>Bf (Bg wr y) q0;replace q1:=λy=>Bf (Bg wr y) q1;replace q2:=λy=>Bf (Bg wr y) q2;replace q3:=λy=>Bf (Bg wr y) q3;replace q4:=λy=>Bf (Bg wr y) q4;have m1':=λy=>Bf (Bg wr y) (Bf p m1);obtain⟨ac,kc,rfl⟩:=N.get;obtain⟨al,aq,rfl⟩:=D.get;have bf:(k:Int)<(x.mz.length:Int):=by omega
     have bg:(0:Int)<=(k:Int):=by omega
     clear v f;go_wp2_with (go_at_call 36;refine (xvb y.code _ _ _ (N.later BR (by first | exact BG _ _ _ | exact (BG _ _ _).drew)) (D.later BR (by first | exact BG _ _ _ | exact (BG _ _ _).drew))).mono ?_;rintro e w5 ⟨rfl,Z⟩);go_roundg (gk-1)
     case measure=>omega
     case rel=>exact⟨k+1,by omega,by go_num,Bh p (Bh (BG _ _ _) Z)⟩
    go_wp2;go_roundg (go-1)
    case measure=>omega
    case rel=>exact⟨j+1,by omega,by go_num,Bh bb p⟩
  have a1':=Bf a a1;have b1':=Bf a b1;have b5:=Bh hW a;clear F q b0' a1 b1 b0;go_wp2;have be:=b5;generalize wr=W3 at *
  go_loopg [130] X.heap.length (λg c wr=>∃j:Nat,j+g=X.heap.length/\c=J j/\qY W3 wr)
  case atStart=>exact⟨0,by omega,rfl,Br _ _⟩
  case round=>
   obtain⟨j,hj,rfl,a⟩:=hrel;have cb1:=Bf a b1';have b5:=Bh be a;by_cases hlt:j<X.heap.length
   ·obtain⟨b,o,rfl,-,H,sv,M,b9⟩:=a7 j X.heap[j] (by simp[hlt]);obtain⟨b',o',rfl,-,r,U,B,b6⟩:=V j X.heap[j] (by simp[hlt]);generalize X.heap[j]=x at *;simp only[Nat.add_zero] at H r;have u1:=Bf b5 H;have u2:=Bf b5 M;have u1':=Bf b5 r;have u2':=Bf b5 B;replace b9:=b9.later BZ b5;replace b6:=b6.later BZ b5;clear H M r B;obtain⟨u,d,rfl,av,L,af,-⟩:=id b9;obtain⟨ag,a4,rfl,ae,z,a3,-⟩:=id b6;unfold maxLen at L z;have bc:(j:Int)<(X.heap.length:Int):=by omega
    have bd:(0:Int)<=(j:Int):=by omega
    have k1:=λx=>Bf (Bg wr x) u1;have k2:=λx=>Bf (Bg wr x) u2;have k1':=λx=>Bf (Bg wr x) u1';have k2':=λx=>Bf (Bg wr x) u2';have kb:=λx=>Bf (Bg wr x) cb1;go_wp2;go_quiet (fail);go_wp2;have hD:qY wr ((wr.alloc (qC #[J x.cls,qS u x.slots.length d] 84)).drewN nq):=below_drewN (Bg _ _) nq;have m1:((wr.alloc (qC #[J x.cls,qS u x.slots.length d] 84)).drewN nq).cell? (O wr.heap.size 1)=some (qS u x.slots.length d):=by simp
    have m2:=Bf hD u2';have mb:=Bf hD cb1;have bb:=Bh a hD;obtain⟨Bx,G⟩:∃Bx,Bx=wr.heap.size:=⟨_,rfl⟩;rw[← G] at m1 ⊢;clear G;replace b9:=b9.later BZ hD;replace b6:=b6.later BZ hD;clear k1 k2 k1' k2' kb u1 u2 u1' u2' cb1 hD;generalize (wr.alloc (qC #[J x.cls,qS u x.slots.length d] 84)).drewN nq=W2 at *;clear a b5;obtain⟨go,a5⟩:∃go,go=gk:=⟨_,rfl⟩
    go_loopg [160] x.slots.length (λg c wi=>∃k:Nat,k+g=x.slots.length/\c=J k/\∃n,wi=W2.drewN n)
    case atStart=>exact⟨0,by omega,rfl,0,rfl⟩
    case round=>
     obtain⟨k,hk,rfl,nn,rfl⟩:=hrel;by_cases hkl:k<x.slots.length
     ·obtain⟨a0,c0,e0,-,-,-,T⟩:=b9;simp only[Value.slice.injEq] at e0;obtain⟨rfl,-,rfl⟩:=e0;obtain⟨au,ay,m,-,-,-,C⟩:=b6;simp only[Value.slice.injEq] at m;obtain⟨rfl,-,rfl⟩:=m;obtain⟨b2,o2,rfl,-,q1,q2⟩:=T k x.slots[k] (by simp[hkl]);obtain⟨b3,o3,rfl,-,q3,q4⟩:=C k x.slots[k] (by simp[hkl]);generalize x.slots[k]=y at *;simp only[Nat.add_zero] at q1 q3;have bf:(k:Int)<(x.slots.length:Int):=by omega
      have bg:(0:Int)<=(k:Int):=by omega
      clear T C;go_wp2;go_quiet (fail);go_wp2;go_roundg (gk-1)
      case measure=>omega
      case rel=>exact⟨k+1,by omega,by go_num,_,rfl⟩
     go_wp2;go_roundg (go-1)
     case measure=>omega
     case rel=>exact⟨j+1,by omega,by go_num,below_drewN bb nn⟩
   go_wp2;go_ret;exact⟨rfl,b5⟩
end Go.Proofs.YtbafokihegegiaaGreatDoor
