import Derived.Test.YtbafokihegegiaaGreatDoorU9
namespace Go.Proofs.YtbafokihegegiaaGreatDoor
open ChangeShapes WideShapes ChangeAt RowKit
set_option linter.unusedSimpArgs false
set_option linter.unusedVariables false
set_option maxHeartbeats 8000000
set_option maxRecDepth 8000
theorem xfr {α:Type}{E:CT α}{sz bytes:Nat}{P:Nat->Prop}{w:qW}{v:Value}{xs:List α}(h:IsRow E sz bytes P w v xs)(n:∀f x,E P w f x->E (λb=>P b/\b<w.heap.size) w f x/\∃u,f 0=some u):IsRow E sz bytes (λb=>P b/\b<w.heap.size) w v xs:=by
 obtain⟨ad,cap,rfl,k,c,e,a⟩:=h;refine⟨ad,cap,rfl,k,c,e,λi x m=>?_⟩;obtain⟨b,o,rfl,g,d⟩:=a i x m;obtain⟨j,u,l⟩:=n _ _ d;exact⟨b,o,rfl,⟨g,World.block_lt_of_cell? w (O b (o+i*sz+0)) l⟩,j⟩
theorem xfU {P:Nat->Prop}{w:qW}{v:Value}{xs:List QL}(h:Fw P w v xs):Fw (λb=>P b/\b<w.heap.size) w v xs:=xfr h λf x a=>⟨a,_,a.1⟩
theorem xjx {P:Nat->Prop}{w:qW}{v:Value}{xs:List QE}(h:Fj P w v xs):Fj (λb=>P b/\b<w.heap.size) w v xs:=xfr h λf x j=>by
 obtain⟨a,c,i,k,d,v,e,g⟩:=j;exact⟨⟨a,c,i,k,d,v,e,xfU g⟩,_,a⟩
theorem xhD {P:Nat->Prop}{w:qW}{v:Value}{xs:List QT}(h:Ep P w v xs):Ep (λb=>P b/\b<w.heap.size) w v xs:=xfr h λf x i=>by
 obtain⟨a,c,g,v,d,e⟩:=i;exact⟨⟨a,c,g,v,d,xfU e⟩,_,a⟩
structure CfR (w:qW)(pb wb ob:Nat)(cv hv lv tv:Value)(ep:Int)(s:QS)(st:CSt)(w':qW):Prop where
 p0:w'.cell? (O pb 0)=some (qP ob)
 w0:w'.cell? (O wb 0)=some cv
 w1:w'.cell? (O wb 1)=some hv
 w2:w'.cell? (O wb 2)=some (J ep)
 s0:w'.cell? (O w.heap.size 0)=some (J s.cls)
 s1:w'.cell? (O w.heap.size 1)=some (qZ s.name)
 s2:w'.cell? (O w.heap.size 2)=some (J s.at')
 o7:w'.cell? (O ob 7)=some lv
 o8:w'.cell? (O ob 8)=some tv
theorem CfR.al {w:qW}{pb wb ob:Nat}{cv hv lv tv:Value}{ep:Int}{s:QS}{st:CSt}{w':qW}(h:CfR w pb wb ob cv hv lv tv ep s st w'):w'.cell? (O pb 0)=some (qP ob)/\w'.cell? (O wb 0)=some cv/\w'.cell? (O wb 1)=some hv/\w'.cell? (O wb 2)=some (J ep)/\w'.cell? (O w.heap.size 0)=some (J s.cls)/\w'.cell? (O w.heap.size 1)=some (qZ s.name)/\w'.cell? (O w.heap.size 2)=some (J s.at')/\w'.cell? (O ob 7)=some lv:=⟨h.p0,h.w0,h.w1,h.w2,h.s0,h.s1,h.s2,h.o7⟩
theorem CfR.later {w:qW}{pb wb ob:Nat}{cv hv lv tv:Value}{ep:Int}{s:QS}{st:CSt}{w' w'':qW}(h:CfR w pb wb ob cv hv lv tv ep s st w')(a:qY w' w''):CfR w pb wb ob cv hv lv tv ep s st w'':=⟨Bf a h.p0,Bf a h.w0,Bf a h.w1,Bf a h.w2,Bf a h.s0,Bf a h.s1,Bf a h.s2,Bf a h.o7,Bf a h.o8⟩
theorem xq8 {w:qW}{ob:Nat}{lv tv:Value}{st:CSt}(h:w.heap[ob]?=some (OB lv tv st))(v:Value)(l:List QE):(w.setCell (O ob 7) v).heap[ob]?=some (OB v tv { st with cells:=l }):=by rw[BW h];rfl
theorem xqK {w:qW}{ob:Nat}{lv tv:Value}{st:CSt}(h:w.heap[ob]?=some (OB lv tv st))(v:Value)(l:List QT):(w.setCell (O ob 8) v).heap[ob]?=some (OB lv v { st with ts:=l }):=by rw[BW h];rfl
theorem xrj {w:qW}{ob:Nat}{lv tv:Value}{st:CSt}(h:w.heap[ob]?=some (OB lv tv st))(n:Int):(w.setCell (O ob 9) (J n)).heap[ob]?=some (OB lv tv { st with hits:=n }):=by rw[BW h];rfl
theorem xpi {w:qW}{ob:Nat}{lv tv:Value}{st:CSt}(h:w.heap[ob]?=some (OB lv tv st))(n:Int):(w.setCell (O ob 10) (J n)).heap[ob]?=some (OB lv tv { st with nots:=n }):=by rw[BW h];rfl
theorem xjz {X:QW}{pb wb ob lo:Nat}{cv hv:Value}{T:Nat->Nat}{w:qW}{st:CSt}{n:Nat}(h:LcP X pb wb ob lo cv hv T w st (n+1))(s:QS)(c:Int)(name:ByteArray):Calls Tryz.prog 143 #[SV s,J c,qZ name,qP pb,qP wb] w λe w'=>e=.returned (.tuple #[J (Ey X st s c name).2.1,J (Ey X st s c name).2.2])/\(∃T',Ext T T' w/\LcP X pb wb ob lo cv hv T' w' (Ey X st s c name).1 n)/\Kp (λt=>t=3) T w w':=by
 have a3:qY w (w.alloc (qJ s)).drew:=(Bg _ _).drew;have L:=Lf w s 105;have B:=h.keep (T':=T) (.refl _ _) (Kp.of_below (S:=λ_=>False) a3) id id;have aq:ob<w.heap.size:=by obtain⟨_,_,_,_,_,_,b,_⟩:=h.box;exact By b
 obtain⟨a,m,k,g,j,i,b1,b2,b3⟩:=B.box;have hF:CfR w pb wb ob cv hv (qS a m k) (qS g j i) X.ez s st (w.alloc (qJ s)).drew:=⟨B.p0,B.lk.w0,B.lk.w1,B.lk.w2,L.c0,L.c1,L.c2,by rw[Bn b1];rfl,by rw[Bn b1];rfl⟩
 have C:=xoe st.cells X s c name _ cv hv _ (b2.mono (Q:=Fx T _) Dc λb F=>F.2) B.lk.cls B.lk.heap (by have:=h.few.c;omega) (λx hx=>by have:=h.few.cl x hx;omega);have H:=hid h;have H1:=hid B;have a7:=hid a3;have a6:Hid ((Ey X st s c name).2=(Dr st.cells X s c name).2.1):=rfl;obtain⟨ac,cc,z,-⟩:=id B.lk.cls;obtain⟨ah,ch,u,-⟩:=id B.lk.heap;subst z u;have Z:pb≠ob:=λe=>by have B:=h.tp;have h2:=h.to3;rw[e] at B;omega
 have b4:wb≠ob:=λe=>by have B:=h.lk.tag;have h2:=h.to3;rw[e] at B;omega
 have a5:w.heap.size≠ob:=by omega
 have HB:=hid b1;have H3:=hid b3;clear h B a3 L b1 b2 b3;generalize ad:Dr st.cells X s c name=cf at *;obtain⟨cl,⟨f1,f2⟩,kn⟩:=cf;simp only at C a6;have ag:Hid (w.heap.size<(w.alloc (qJ s)).drew.heap.size):=by show _<_;simp
 go_enter Tryz.func143,Tryz.ntmps143;go_upto_region 1 with (fail);generalize (w.alloc (qJ s))=W at *
 go_region_held3 (λw'=>w'.cell? (O pb 0)=some (qP ob)/\w'.cell? (O wb 0)=some (qS ac X.cz.length cc)/\w'.cell? (O wb 1)=some (qS ah X.heap.length ch)/\w'.cell? (O wb 2)=some (J X.ez)/\w'.cell? (O w.heap.size 0)=some (J s.cls)/\w'.cell? (O w.heap.size 1)=some (qZ s.name)/\w'.cell? (O w.heap.size 2)=some (J s.at')/\w'.cell? (O ob 7)=some (qS a m k))
  (first | with_reducible exact hF.al | with_reducible exact a8.al)
  (first | (go_at_call 144;refine C.mono ?_;rintro e w2 ⟨a2,k2,rfl,q,l⟩;have a8:=hF.later l))
 have a0:=Bs HB.out l;have H2:=hid q;have ae:=hid l;have ak:=hid a0;have o7f:=BN a0;obtain⟨p0,w0,r,y,s0,s1,s2,o7,o8⟩:=id a8;clear hF C q l a0;go_upto_region 3 with (fail);have ai:Hid (Kp (λt=>t=3) T w (w2.setCell (O ob 7) (qS a2 cl.length k2))):=((Kp.of_below a7.out).on ae.out).set (λ_=>H.out.to3) _ _;have M:Kp (λt=>t=3) T W.drew (w2.setCell (O ob 7) (qS a2 cl.length k2)):=(Kp.of_below ae.out).set (λ_=>H.out.to3) _ _;have aw:=H3.out.fxl xbD (.refl T W.drew) M Zo;have N:=xq8 ak.out (qS a2 cl.length k2) cl;have av:Hid (Fj (λb=>W.drew.heap.size<=b) (w2.setCell (O ob 7) (qS a2 cl.length k2)) (qS a2 cl.length k2) cl):=H2.out.keep Dc (CK (Keeps.refl _ _) (by have:=a7.out.size;omega) _) λ_ h=>h;have y0:=(BV w2 (O ob 7) (O pb 0) (qS a2 cl.length k2) (by simpa using Z.symm)).trans p0;have y1:=(BV w2 (O ob 7) (O w.heap.size 0) (qS a2 cl.length k2) (by simpa using a5.symm)).trans s0;have y2:=(BV w2 (O ob 7) (O w.heap.size 1) (qS a2 cl.length k2) (by simpa using a5.symm)).trans s1;have y3:=(BV w2 (O ob 7) (O w.heap.size 2) (qS a2 cl.length k2) (by simpa using a5.symm)).trans s2
 clear p0 w0 r y s0 s1 s2 o7 o8 o7f a8;generalize (w2.setCell (O ob 7) (qS a2 cl.length k2))=V at *;have y8:V.cell? (O ob 8)=some (qS g j i):=by rw[Bn N];rfl
 have Y:=λw' (F:qY V w')=>xrm st.ts _ s c w' (aw.later xbD F) (by have:=H.out.few.t;omega) (λx hx=>by have:=H.out.few.tl x hx;omega);have am:=hid N;have yf:=BN N;have ay:=hid M;have an:=hid M.size;clear N M;have d:V.drew.cell? (O pb 0)=some (qP ob)/\V.drew.cell? (O w.heap.size 0)=some (J s.cls)/\V.drew.cell? (O w.heap.size 1)=some (qZ s.name)/\V.drew.cell? (O w.heap.size 2)=some (J s.at')/\V.drew.cell? (O ob 8)=some (qS g j i):=⟨y0,y1,y2,y3,y8⟩;refine Fm (S:=λw'=>w'.cell? (O pb 0)=some (qP ob)/\w'.cell? (O w.heap.size 0)=some (J s.cls)/\w'.cell? (O w.heap.size 1)=some (qZ s.name)/\w'.cell? (O w.heap.size 2)=some (J s.at')/\w'.cell? (O ob 8)=some (qS g j i)) [10] (by kernel_rfl) ?_;refine tk 0 _ (qP ob) rfl (d) (λ_ _ _ h=>h) rfl (by kernel_rfl) ?_ ?_
 ·rintro w⟨_,_,_,_,_⟩;go_simp
 try simp only[Act.put,Bj,Bl,Bk]
 refine tk 1 _ (qP ob) rfl (d) (λ_ _ _ h=>h) rfl (by kernel_rfl) ?_ ?_
 ·rintro w⟨_,_,_,_,_⟩;go_simp
 try simp only[Act.put,Bj,Bl,Bk]
 refine tk 2 _ (qP ob) rfl (d) (λ_ _ _ h=>h) rfl (by kernel_rfl) ?_ ?_
 ·rintro w⟨_,_,_,_,_⟩;go_simp
 try simp only[Act.put,Bj,Bl,Bk]
 refine tk 3 _ (.pointer (some (O ob 8))) rfl (d) (λ_ _ _ h=>h) rfl (by kernel_rfl) ?_ ?_
 ·rintro w⟨_,_,_,_,_⟩;go_simp
 try simp only[Act.put,Bj,Bl,Bk]
 refine tk 4 _ (qS g j i) rfl (d) (λ_ _ _ h=>h) rfl (by kernel_rfl) ?_ ?_
 ·rintro w⟨_,_,_,_,_⟩;go_simp
 try simp only[Act.put,Bj,Bl,Bk]
 refine tk 5 _ (SV s) rfl (d) (λ_ _ _ h=>h) rfl (by kernel_rfl) ?_ ?_
 ·rintro w⟨_,_,_,_,_⟩;go_simp
 try simp only[Act.put,Bj,Bl,Bk]
 refine tk 6 _ (J c) rfl (d) (λ_ _ _ h=>h) rfl (by kernel_rfl) ?_ ?_
 ·rintro w⟨_,_,_,_,_⟩;go_simp
 try simp only[Act.put,Bj,Bl,Bk]
 refine DS (rs:=[7]) (by kernel_rfl) (by simp) ?_;intro i hi;simp only[List.mem_cons,List.not_mem_nil,or_false] at hi;subst hi;refine Ck (o:=_) rfl (λK' hK=>?_);go_simp
 go_at_call 145
 refine (Y _ (Br _ V).drew).mono ?_;rintro e w3 ⟨g3,c3,rfl,p,f⟩;have a1:=Bs (show V.drew.heap[ob]?=_ from am.out) f;have G:=And.intro (Bf f d.1) (And.intro (Bf f d.2.1) (And.intro (Bf f d.2.2.1) (And.intro (Bf f d.2.2.2.1) (Bf f d.2.2.2.2))));dsimp only;refine hK _ _ (λ_=>?_) ?_
 ·exact G
 clear hK K'
 try simp only[Act.put,Bj,Bl,Bk]
 refine tk 8 _ (qP ob) rfl (G) (λ_ _ _ h=>h) rfl (by kernel_rfl) ?_ ?_
 ·rintro w⟨_,_,_,_,_⟩;go_simp
 try simp only[Act.put,Bj,Bl,Bk]
 refine tk 9 _ (.pointer (some (O ob 8))) rfl (G) (λ_ _ _ h=>h) rfl (by kernel_rfl) ?_ ?_
 ·rintro w⟨_,_,_,_,_⟩;go_simp
 try simp only[Act.put,Bj,Bl,Bk]
 refine DS (rs:=[10]) (by kernel_rfl) (by simp) ?_;intro i hi;simp only[List.mem_cons,List.not_mem_nil,or_false] at hi;subst hi;refine Ck (o:=_) rfl (λK' hK=>?_);have z8:=G.2.2.2.2;have zf:=BN a1;go_simp;refine hK _ _ (λh=>absurd h (by decide)) ?_;clear hK K'
 try simp only[Act.put,Bj,Bl,Bk]
 refine EZ (by kernel_rfl) ?_ _
 try simp only[Act.put,Bj,Bl,Bk]
 have af:Ext T (Dw T W.drew 0) W.drew:=EW T W.drew 0;have a4:Hid (Ext T (Dw T W.drew 0) w):=λb F=>EW T W.drew 0 b (Cd F a7.out.size);have z0:=G.1;clear d G y0 y1 y2 y3 y8 yf Y;have K:=xqK a1 (qG g3 (DL st.ts s c).length c3) (DL st.ts s c);have au:=ag.out;have a9:=an.out;have aj:Hid (Fj (λb=>W.drew.heap.size<=b) (w3.setCell (O ob 8) (qG g3 (DL st.ts s c).length c3)) (qS a2 cl.length k2) cl):=(av.out.later Dc ((Br _ V).drew.trans f)).keep Dc (CK (Keeps.refl _ _) Zo _) λ_ h=>h;have ax:Hid (Ep (λb=>W.drew.heap.size<=b) (w3.setCell (O ob 8) (qG g3 (DL st.ts s c).length c3)) (qG g3 (DL st.ts s c).length c3) (DL st.ts s c)):=p.keep xbD (CK (Keeps.refl _ _) (by show ¬ V.heap.size<=ob;omega) _) λ_ h=>BX a9 h;have ap:Hid (Kp (λt=>t=3) T w (w3.setCell (O ob 8) (qG g3 (DL st.ts s c).length c3))):=(ai.out.on ((Br _ V).drew.trans f)).set (λ_=>H.out.to3) _ _;have ar:Hid (Kp (λt=>t=3) T W.drew (w3.setCell (O ob 8) (qG g3 (DL st.ts s c).length c3))):=(ay.out.on ((Br _ V).drew.trans f)).set (λ_=>H.out.to3) _ _;have u0:=(BV w3 (O ob 8) (O pb 0) (qG g3 (DL st.ts s c).length c3) (by simpa using Z.symm)).trans z0
 clear z0 p f a1;generalize (w3.setCell (O ob 8) (qG g3 (DL st.ts s c).length c3))=U at *;have ao:=H.out.few.h;have az:=H.out.few.k;have u9:U.cell? (O ob 9)=some (J st.hits):=by rw[Bn K];rfl
 have u10:U.cell? (O ob 10)=some (J st.nots):=by rw[Bn K];rfl
 have uf:=BN K;have b5:IntKind.i64.wrap (st.hits+1)=st.hits+1:=CM Zo Zo;have b0:IntKind.i64.wrap (st.nots+1)=st.nots+1:=CM Zo Zo;have aa:=hid K;have ab:=hid (H.out.few.look X s c name);have R:Hid ((Ey X st s c name).1=⟨cl,DL st.ts s c,if kn then st.hits+1 else st.hits,if kn then st.nots else st.nots+1⟩):=by show _=_;unfold Ey;rw[ad]
 have D:Hid (∀(o:Nat) (v:Value) (st':CSt),st'.cells=cl->st'.ts=DL st.ts s c->CFew st' n->(U.setCell (O ob o) v).heap[ob]?=some (OB (qS a2 cl.length k2) (qG g3 (DL st.ts s c).length c3) st')->(∃T',Ext T T' w/\LcP X pb wb ob lo (qS ac X.cz.length cc) (qS ah X.heap.length ch) T' (U.setCell (O ob o) v) st' n)/\Kp (λt=>t=3) T w (U.setCell (O ob o) v)):=λo v st' e1 e2 hf hB=>by
  have kU:Kp (λt=>t=3) T W.drew (U.setCell (O ob o) v):=ar.out.set (λ_=>H.out.to3) _ _;have hz:(U.setCell (O ob o) v).heap.size=U.heap.size:=by simp
  refine⟨⟨Dw T W.drew 0,a4.out,⟨by rw[a4.out _ H.out.lp];exact H.out.tp,Cd H1.out.lp kU.size,(BV U (O ob o) (O pb 0) v (by simpa using Z.symm)).trans u0,H1.out.lk.keep af kU Zo,by rw[a4.out _ aq];exact H.out.to3,BX H1.out.ll kU.size,⟨_,_,_,_,_,_,hB,?_,?_⟩,hf⟩⟩,ap.out.set (λ_=>H.out.to3) _ _⟩
  ·rw[e1];exact (xjx (aj.out.keep Dc (CK (Keeps.refl _ _) Zo _) λ_ h=>h)).mono Dc λb F=>⟨BX H1.out.ll F.1,F.2,Gr F.1⟩
  rw[e2];exact (xhD (ax.out.keep xbD (CK (Keeps.refl _ _) Zo _) λ_ h=>h)).mono xbD λb F=>⟨BX H1.out.ll F.1,F.2,Gr F.1⟩
 clear K ad ao az au a9 af
 cases kn with
 | true=>
  have Q:=hid (D.out 9 (J (st.hits+1)) ⟨cl,DL st.ts s c,st.hits+1,st.nots⟩ rfl rfl (by have:=ab.out;rw[R.out] at this;exact this) (xrj aa.out _));clear D;go_wp2;refine Bt (v:=.tuple #[J f1,J f2]) (by simp[results,Tryz.results143,go_sem]) rfl ⟨by rw[a6.out],?_⟩;rw[R.out];exact Q.out
 | false=>
  have Q:=hid (D.out 10 (J (st.nots+1)) ⟨cl,DL st.ts s c,st.hits,st.nots+1⟩ rfl rfl (by have:=ab.out;rw[R.out] at this;exact this) (xpi aa.out _));clear D;go_wp2;refine Bt (v:=.tuple #[J f1,J f2]) (by simp[results,Tryz.results143,go_sem]) rfl ⟨by rw[a6.out],?_⟩;rw[R.out];exact Q.out
theorem Pg {fn:Nat}{f:Func}(d:Tryz.prog.funcs[fn]?=some f)(g:(f.name == "runtime.NumGoroutine")=false)(b:f.body.isSome=true)(a:Array Value)(w:qW):(callFunc fn a).run Tryz.prog w=.ok (.enter fn a) w:=by
 have c:¬ f.name = "runtime.NumGoroutine" := by simpa using g
 have e:¬ f.body=none:=by intro h;rw[h] at b;cases b
 simp[callFunc,d,c,e]
theorem xgI {X:QW}(h:BM X=0){c n:Int}{m:QM}(j:Cp X.cz c n=some m):m.code.length<=60:=by
 obtain⟨k,-,i,-⟩:=Gx h;obtain⟨kc,kn,x,rfl,rfl,g,a⟩:=Pn j;have d:=i kc x (Bz g) g;unfold Dm at d;split at d
 ·cases d
 split at d
 ·cases d
 have b:=Hm d kn m a;unfold Dn at b;split at b
 ·cases b
 split at b
 ·rename_i e
  have:m.code.length=0:=by
   unfold Ft at e;rw[List.any_eq_true] at e;obtain⟨p,-,e⟩:=e;simp at e;simp[e]
  omega
 unfold Em at b;split at b
 ·rename_i f;exact absurd b f
 rename_i f;have:=xiN (by simpa using f);omega
theorem xio {σ:Type}{p:Mp σ}(a:∀c k,p.E.quick c k=none)(T:Nat->Nat)(w:qW)(st:σ)(c k:Int)(mt:QM)(n:Nat):Calls Tryz.prog 110 (#[J c,J k]++#[]) w λe w'=>(∃fc fn fe ft av nv cv,e=.returned (.tuple #[Lp fc fn fe ft (qS av nv cv),.bool (p.E.quick c k).isSome])/\∀q,p.E.quick c k=some q->ft=q.2/\Cm (Fx T w') w' (qS av nv cv) q.1)/\qY w w':=by
 refine (xo9 c k w).mono ?_;rintro e w' ⟨rfl,b⟩;refine⟨⟨0,⟨#[]⟩,0,0,none,0,0,by rw[a];rfl,λq h=>?_⟩,b⟩;rw[a] at h;cases h
theorem xmh (X:QW)(pb wb ob lo:Nat)(cv hv:Value):Lok (LcP X pb wb ob lo cv hv):=⟨λh e k a c=>h.keep e k a c,λh b=>h.mono b⟩
theorem xoO {X:QW}(b:BM X=0){fuel:Int}(d:fuel<=400)(pb wb ob lo:Nat)(cv hv a:Value):Cx (⟨Ds X fuel,a,X.ez,.func (.func 143) #[] #[qP pb,qP wb],.func (.func 110) #[] #[]⟩:Mp CSt) (LcP X pb wb ob lo cv hv) 143 #[qP pb,qP wb] 110 #[] where
 lv:=rfl
 qv:=rfl
 lcf:=Pg Tryz.func143 (by kernel_rfl) (by kernel_rfl)
 qcf:=Pg Tryz.func110 (by kernel_rfl) (by kernel_rfl)
 ok:=xiV b fuel _
 fuel:=by show fuel<=_;omega
 keep h e k h0 h3:=h.keep e k h0 h3
 mono h hn:=h.mono hn
 look T w st s c name n h:=xjz h s c name
 quick T w st c k mt n _ _:=xio (λ_ _=>rfl) T w st c k mt n
 few c k mt hm:=⟨by have:=xgI b hm;omega,λq h=>by cases h⟩
theorem xkv (ac:Option Addr)(nc cc:Nat)(ah:Option Addr)(nh ch:Nat)(ep:Int)(ob:Nat)(w:qW):Calls Tryz.prog 111 #[WV (qS ac nc cc) (qS ah nh ch) ep,qP ob] w λe w'=>e=.returned (.func (.func 143) #[] #[qP (w.heap.size+1),qP w.heap.size])/\w'.cell? (O w.heap.size 0)=some (qS ac nc cc)/\w'.cell? (O w.heap.size 1)=some (qS ah nh ch)/\w'.cell? (O w.heap.size 2)=some (J ep)/\w'.cell? (O (w.heap.size+1) 0)=some (qP ob)/\w.heap.size+2<=w'.heap.size/\qY w w':=by
 go_enter Tryz.func111,Tryz.ntmps111;go_wp2;go_ret;exact⟨rfl,Bf (Bg _ _) (Bp w #[qS ac nc cc,qS ah nh ch,J ep] 26 _ rfl 0),Bf (Bg _ _) (Bp w #[qS ac nc cc,qS ah nh ch,J ep] 26 _ rfl 1),Bf (Bg _ _) (Bp w #[qS ac nc cc,qS ah nh ch,J ep] 26 _ rfl 2),Bp _ _ _ _ (by simp) 0,by simp,BG _ _ _⟩
def Gd (ob:Nat):Nat->Nat:=λb=>if b=ob then 3 else 0
theorem xgK (ob:Nat):Gd ob ob=3:=by simp[Gd]
theorem Eb {ob b:Nat}(h:b≠ob):Gd ob b=0:=by simp[Gd,h]
theorem xrp (ob b:Nat):Gd ob b=0\/Gd ob b=3:=by unfold Gd;split<;>simp
abbrev CaV (cv hv:Value)(ep:Int)(r:Ran)(lv tv:Value)(h k:Int):Value:=.agg #[cv,hv,J ep,J r.v.k,J r.v.n,J r.err,J r.sz_,lv,tv,J h,J k]
def xqt (w:qW)(X:QW)(r:Ran × CSt)(e:Ending)(w':qW):Prop:=
 qY w w'/\∃cv hv lv tv,e=.returned (CaV cv hv X.ez r.1 lv tv r.2.hits r.2.nots)/\BK (λb=>w.heap.size<=b) w' cv X.cz/\BP (λb=>w.heap.size<=b) w' hv r.1.heap/\Fj (λb=>w.heap.size<=b) w' lv r.2.cells/\Ep (λb=>w.heap.size<=b) w' tv r.2.ts
structure CrR (w:qW)(cv hv:Value)(ep:Int)(s:QV)(name:ByteArray)(av:Value)(w':qW):Prop where
 w0:w'.cell? (O w.heap.size 0)=some cv
 w1:w'.cell? (O w.heap.size 1)=some hv
 w2:w'.cell? (O w.heap.size 2)=some (J ep)
 c0:w'.cell? (O (w.heap.size+1) 0)=some (J s.k)
 c1:w'.cell? (O (w.heap.size+1) 1)=some (J s.n)
 c2:w'.cell? (O (w.heap.size+1) 2)=some (qZ name)
 c3:w'.cell? (O (w.heap.size+1) 3)=some av
theorem CrR.al {w:qW}{cv hv:Value}{ep:Int}{s:QV}{name:ByteArray}{av:Value}{w':qW}(h:CrR w cv hv ep s name av w'):w'.cell? (O w.heap.size 0)=some cv/\w'.cell? (O w.heap.size 1)=some hv/\w'.cell? (O w.heap.size 2)=some (J ep)/\w'.cell? (O (w.heap.size+1) 0)=some (J s.k)/\w'.cell? (O (w.heap.size+1) 1)=some (J s.n)/\w'.cell? (O (w.heap.size+1) 2)=some (qZ name)/\w'.cell? (O (w.heap.size+1) 3)=some av:=⟨h.w0,h.w1,h.w2,h.c0,h.c1,h.c2,h.c3⟩
theorem CrR.kp {w:qW}{cv hv:Value}{ep:Int}{s:QV}{name:ByteArray}{av:Value}{w' w'':qW}{S:Nat->Prop}{T:Nat->Nat}(h:CrR w cv hv ep s name av w')(k:Kp S T w' w'')(b:¬ S (T w.heap.size))(a:¬ S (T (w.heap.size+1))):CrR w cv hv ep s name av w'':=⟨k.cell h.w0 b,k.cell h.w1 b,k.cell h.w2 b,k.cell h.c0 a,k.cell h.c1 a,k.cell h.c2 a,k.cell h.c3 a⟩
theorem CrR.set {w:qW}{cv hv:Value}{ep:Int}{s:QV}{name:ByteArray}{av:Value}{w':qW}(h:CrR w cv hv ep s name av w'){b:Nat}(a:w.heap.size+2<=b)(o:Nat)(u:Value):CrR w cv hv ep s name av (w'.setCell (O b o) u):=
 ⟨(BV _ _ _ _ (by simp;omega)).trans h.w0,(BV _ _ _ _ (by simp;omega)).trans h.w1,(BV _ _ _ _ (by simp;omega)).trans h.w2,(BV _ _ _ _ (by simp;omega)).trans h.c0,(BV _ _ _ _ (by simp;omega)).trans h.c1,(BV _ _ _ _ (by simp;omega)).trans h.c2,(BV _ _ _ _ (by simp;omega)).trans h.c3⟩
theorem xqq {w:qW}{ob:Nat}{lv tv:Value}{st:CSt}(h:w.heap[ob]?=some (OB lv tv st)):w.cell? (O ob 0)=some (qN)/\w.cell? (O ob 1)=some (qN)/\w.cell? (O ob 2)=some (J 0)/\w.cell? (O ob 3)=some (J 0)/\w.cell? (O ob 4)=some (J 0)/\w.cell? (O ob 5)=some (J 0)/\w.cell? (O ob 6)=some (J 0)/\w.cell? (O ob 7)=some lv/\w.cell? (O ob 8)=some tv/\w.cell? (O ob 9)=some (J st.hits)/\w.cell? (O ob 10)=some (J st.nots):=by
 refine⟨?_,?_,?_,?_,?_,?_,?_,?_,?_,?_,?_⟩<;>(rw[Bn h];rfl)
abbrev OB2 (cv hv:Value)(ep:Int)(r:Ran)(lv tv:Value)(st:CSt):Obj:=qC #[cv,hv,J ep,J r.v.k,J r.v.n,J r.err,J r.sz_,lv,tv,J st.hits,J st.nots] 100 (0,0)
structure CaR (ob:Nat)(cv hv:Value)(ep:Int)(r:Ran)(lv tv:Value)(st:CSt)(w U:qW):Prop where
 box:U.heap[ob]?=some (OB2 cv hv ep r lv tv st)
 kp:∀(T:Nat->Nat),T ob=3->Kp (λt=>t=3) T w U
theorem caA {w:qW}{ob:Nat}{lv tv:Value}{st:CSt}(h:w.heap[ob]?=some (OB lv tv st))(cv hv:Value)(ep:Int)(r:Ran):CaR ob cv hv ep r lv tv st w (((((((w.setCell (O ob 0) cv).setCell (O ob 1) hv).setCell (O ob 2) (J ep)).setCell (O ob 3) (J r.v.k)).setCell (O ob 4) (J r.v.n)).setCell (O ob 5) (J r.err)).setCell (O ob 6) (J r.sz_)):=
 ⟨by rw[BW (BW (BW (BW (BW (BW (BW h _) _) _) _) _) _) _];rfl,λT a=>(((((((Kp.refl _ _ _).set (λ_=>a) _ _).set (λ_=>a) _ _).set (λ_=>a) _ _).set (λ_=>a) _ _).set (λ_=>a) _ _).set (λ_=>a) _ _).set (λ_=>a) _ _⟩
theorem xr4 {w:qW}{ob:Nat}{cv hv:Value}{ep:Int}{r:Ran}{lv tv:Value}{st:CSt}(h:w.heap[ob]?=some (OB2 cv hv ep r lv tv st)):w.cell? (O ob 0)=some cv/\w.cell? (O ob 1)=some hv/\w.cell? (O ob 2)=some (J ep)/\w.cell? (O ob 3)=some (J r.v.k)/\w.cell? (O ob 4)=some (J r.v.n)/\w.cell? (O ob 5)=some (J r.err)/\w.cell? (O ob 6)=some (J r.sz_)/\w.cell? (O ob 7)=some lv/\w.cell? (O ob 8)=some tv/\w.cell? (O ob 9)=some (J st.hits)/\w.cell? (O ob 10)=some (J st.nots):=by
 refine⟨?_,?_,?_,?_,?_,?_,?_,?_,?_,?_,?_⟩<;>(rw[Bn h];rfl)
theorem xmQ {P Q R S:Nat->Prop}(X:QW)(hX:BM X=0)(s:QV)(name:ByteArray)(a:List QV)(fuel:Int)(l:List QE)(ts:List QT)(cv hv av lv tv:Value)(w:qW)(hC:BK P w cv X.cz)(hH:BP P w hv X.heap)(hA:CG Q w av a)(hl:Fj R w lv l)(ht:Ep S w tv ts)(hn:name.size<=140737488351232)(hf:CFew ⟨l,ts,0,0⟩ 400) :
  Calls Tryz.prog 86 #[WV cv hv X.ez,EL s name av,J fuel,lv,tv] w λe w'=>xqt w X (DQ (Ds X fuel) X ⟨l,ts,0,0⟩ s name a fuel) e w':=by
 obtain⟨ac,cc,rfl,-,-,L,-⟩:=id hC;obtain⟨ah,ch,rfl,-,-,H,-⟩:=id hH;obtain⟨aa,ca,rfl,-⟩:=id hA;obtain⟨al,kl,rfl,-⟩:=id hl;obtain⟨at',kt,rfl,-⟩:=id ht;have a8:qY w (((w.alloc (qA ac cc ah ch X)).alloc (qK s name aa a ca)).alloc (qC #[qN,qN,J 0,J 0,J 0,J 0,J 0,qN,qN,J 0,J 0] 100)):=Bh (BG _ _ _) (Bg _ _)
 have ba:CrR w (qS ac X.cz.length cc) (qS ah X.heap.length ch) X.ez s name (qS aa a.length ca) (((w.alloc (qA ac cc ah ch X)).alloc (qK s name aa a ca)).alloc (qC #[qN,qN,J 0,J 0,J 0,J 0,J 0,qN,qN,J 0,J 0] 100)):=by
  obtain⟨-,w0,w1,w2,c0,c1,c2,c3⟩:=xk2 w (qS ac X.cz.length cc) (qS ah X.heap.length ch) X.ez s name (qS aa a.length ca);exact⟨Bf (Bg _ _) w0,Bf (Bg _ _) w1,Bf (Bg _ _) w2,Bf (Bg _ _) c0,Bf (Bg _ _) c1,Bf (Bg _ _) c2,Bf (Bg _ _) c3⟩
 have hz:(((w.alloc (qA ac cc ah ch X)).alloc (qK s name aa a ca)).alloc (qC #[qN,qN,J 0,J 0,J 0,J 0,J 0,qN,qN,J 0,J 0] 100)).heap.size=w.heap.size+3:=by simp
 have aq:(((w.alloc (qA ac cc ah ch X)).alloc (qK s name aa a ca)).alloc (qC #[qN,qN,J 0,J 0,J 0,J 0,J 0,qN,qN,J 0,J 0] 100)).heap[w.heap.size+2]?=some (qC #[qN,qN,J 0,J 0,J 0,J 0,J 0,qN,qN,J 0,J 0] 100 (0,0)):=Dh _ _ _ (by simp);go_enter Tryz.func86,Tryz.ntmps86;go_upto_region 1 with (fail);generalize (((w.alloc (qA ac cc ah ch X)).alloc (qK s name aa a ca)).alloc (qC #[qN,qN,J 0,J 0,J 0,J 0,J 0,qN,qN,J 0,J 0] 100))=W at *;go_wp2_with fail;refine (NV l _ W (hl.later Dc a8) (by have:=hf.c;simp only at this;omega) (λx hx=>by have:=hf.cl x hx;omega)).mono ?_;rintro e w1 ⟨g1,rfl,C,M,f⟩;go_wp2_with fail;refine (xg4 ts _ w1 ((ht.later xbD a8).later xbD f) (by have:=hf.t;simp only at this;omega) (λx hx=>by have:=hf.tl x hx;omega)).mono ?_;rintro e w2 ⟨g2,K,rfl,z,N,g⟩;have ap:=Nz (C.row0 xcN (by unfold maxLen;have:=hf.c;simp only at this;omega));have az:=z.tallies (P:=λb=>g2<=b/\b<w2.heap.size) (by unfold maxLen;have:=hf.t;simp only at this;omega) (λx hx=>by unfold maxLen;have:=hf.tl x hx;omega) λb h1 h2=>⟨h1,h2⟩
 have a7:qY w2 (w2.alloc (OB (qG g1 l.length l.length) (qG g2 ts.length ts.length) ⟨l,ts,0,0⟩)).drew:=(Bg _ _).drew;have ar:Hid (qY w (w2.alloc (OB (qG g1 l.length l.length) (qG g2 ts.length ts.length) ⟨l,ts,0,0⟩)).drew):=Bh (Bh (Bh a8 f) g) a7;have ai:qY W (w2.alloc (OB (qG g1 l.length l.length) (qG g2 ts.length ts.length) ⟨l,ts,0,0⟩)).drew:=Bh (Bh f g) a7;have aj:=ba.kp (T:=λ_=>0) (Kp.of_below (S:=λ_=>False) ai) id id;have ax:=Bs aq ai;have aw:=(ap.later Dc g).later Dc a7;have ay:=az.later xbD a7;have an:(w2.alloc (OB (qG g1 l.length l.length) (qG g2 ts.length ts.length) ⟨l,ts,0,0⟩)).drew.heap[w2.heap.size]?=_:=BH w2 _;have br:=f.size;have bt:=g.size;have bg:w2.heap.size<(w2.alloc (OB (qG g1 l.length l.length) (qG g2 ts.length ts.length) ⟨l,ts,0,0⟩)).drew.heap.size:=by simp
 have HC:=hid hC;have HH:=hid hH;have HA:=hid hA;have bc:=hid aw;have bm:=hid ay;have bj:=hid an;have be:=hid ax;clear hC hH hA hl ht ap az C z ba aq f g a7 ai a8 aw ay an ax;go_upto_region 2 with (fail);generalize (w2.alloc (OB (qG g1 l.length l.length) (qG g2 ts.length ts.length) ⟨l,ts,0,0⟩))=V at *;generalize w2.heap.size=ob at *;have am:=xkv ac X.cz.length cc ah X.heap.length ch X.ez ob V.drew
 have ae:∀w3:qW,Below V.drew.heap.size V.drew w3->V.drew.heap.size+2<=w3.heap.size->w3.cell? (O V.drew.heap.size 0)=some (qS ac X.cz.length cc)->w3.cell? (O V.drew.heap.size 1)=some (qS ah X.heap.length ch)->w3.cell? (O V.drew.heap.size 2)=some (J X.ez)->w3.cell? (O (V.drew.heap.size+1) 0)=some (qP ob)->Calls Tryz.prog 108 #[qV ac cc ah ch X,EL s name (qS aa a.length ca),J fuel,.func (.func 143) #[] #[qP (V.drew.heap.size+1),qP V.drew.heap.size],.func (.func 110) #[] #[]] w3 λe w'=>WiPost (LcP X (V.drew.heap.size+1) V.drew.heap.size ob (w.heap.size+3) (qS ac X.cz.length cc) (qS ah X.heap.length ch)) (Gd ob) w3 X (DQ (Ds X fuel) X ⟨l,ts,0,0⟩ s name a fuel) e w':=λw3 d bn f0 f1 f2 f3=>by
  have a2:=Bh ar.out d;have bk:=d.size;have ag:∀b,b<w.heap.size->(Gd ob) b=0:=λb hb=>Eb Zo;have k3:BK (Fx (Gd ob) w3) w3 (qS ac X.cz.length cc) X.cz:=(xdx HC.out).keep Bw (Keeps.of_below a2) λb hb=>⟨Cd hb a2.size,ag b hb⟩
  have k4:BP (Fx (Gd ob) w3) w3 (qS ah X.heap.length ch) X.heap:=(xfO HH.out).keep BB (Keeps.of_below a2) λb hb=>⟨Cd hb a2.size,ag b hb⟩
  refine xiL (T0:=Gd ob) X hX (Ds X fuel) ⟨l,ts,0,0⟩ rfl s name a _ _ _ w3 (λb _=>xrp ob b) k3 k4 ((xek HA.out).keep BZ (Keeps.of_below a2) λb hb=>⟨Cd hb a2.size,ag b hb⟩) hn (xmh _ _ _ _ _ _ _) ⟨Eb Zo,by omega,f3,⟨Eb Zo,by omega,f0,f1,f2,k3,k4⟩,xgK ob,by omega,⟨_,_,_,_,_,_,Bs bj.out d,(bc.out.later Dc d).mono Dc λb hb=>⟨by omega,by omega,Eb Zo⟩,(bm.out.later xbD d).mono xbD λb hb=>⟨by omega,by omega,Eb Zo⟩⟩,hf.mono (Nat.min_le_right _ _)⟩ (λ_ h4 cv'=>xoO hX h4 _ _ _ _ _ _ cv')
 have bl:=hid (rfl:DQ (Ds X fuel) X ⟨l,ts,0,0⟩ s name a fuel=DQ (Ds X fuel) X ⟨l,ts,0,0⟩ s name a fuel);obtain⟨r,hr⟩:∃r,DQ (Ds X fuel) X ⟨l,ts,0,0⟩ s name a fuel=r:=⟨_,rfl⟩;rw[hr] at ae;have bd:=hid hr;clear hr bl;have ao:=aj.al;have HZ:=hid bg;simp only[Nat.add_assoc,Nat.reduceAdd] at *;have tokA:True:=trivial
 go_region_held3 (λw'=>w'.cell? (O w.heap.size 0)=some (qS ac X.cz.length cc)/\w'.cell? (O w.heap.size 1)=some (qS ah X.heap.length ch)/\w'.cell? (O w.heap.size 2)=some (J X.ez)/\w'.cell? (O (w.heap.size+1) 0)=some (J s.k)/\w'.cell? (O (w.heap.size+1) 1)=some (J s.n)/\w'.cell? (O (w.heap.size+1) 2)=some (qZ name)/\w'.cell? (O (w.heap.size+1) 3)=some (qS aa a.length ca))
  (first | with_reducible exact ao | with_reducible exact ad.al | with_reducible exact a6.al | with_reducible exact (((a6.set a1 _ _).set a1 _ _).set a1 _ _).al | with_reducible exact (((((((a6.set a1 _ _).set a1 _ _).set a1 _ _).set a1 _ _).set a1 _ _).set a1 _ _).set a1 _ _).al | with_reducible exact ((((a6.set a1 _ _).set a1 _ _).set a1 _ _).set a1 _ _).al)
  (first
   | (have _t:=tokA;go_at_call 111;refine am.mono ?_;rintro e w3 ⟨rfl,f0,f1,f2,f3,fz,d⟩;have ad:=aj.kp (T:=λ_=>0) (Kp.of_below (S:=λ_=>False) d) id id;clear tokA;have tokB:True:=trivial)
   | (have _t:=tokB;go_at_call 108;refine (ae _ d fz f0 f1 f2 f3).mono ?_;rintro e w4 ⟨i,T4,y,p,Z,Y,rfl,q,o⟩;have bn:=d.size;have a6:=ad.kp i (by rw[Eb Zo];omega) (by rw[Eb Zo];omega);have a1:w.heap.size+2<=ob:=Zo;obtain⟨a5,m5,k5,g5,j5,i5,m,u,B⟩:=p.box;have bf:=BN m;obtain⟨b0,b1,b2,b3,b4,b5,b6,b7,b8,b9,G⟩:=xqq m;obtain⟨a3,k3,rfl,-⟩:=id q;obtain⟨a4,k4,rfl,-⟩:=id o;have au:=i.held (Bs be.out d) (by rw[Eb Zo];omega);clear tokB))
 have hU:=caA m (qS a3 X.cz.length k3) (qS a4 r.1.heap.length k4) X.ez r.1;generalize (((((((w4.setCell (O ob 0) (qS a3 X.cz.length k3)).setCell (O ob 1) (qS a4 r.1.heap.length k4)).setCell (O ob 2) (J X.ez)).setCell (O ob 3) (J r.1.v.k)).setCell (O ob 4) (J r.1.v.n)).setCell (O ob 5) (J r.1.err)).setCell (O ob 6) (J r.1.sz_))=U at *;have ab:=hU.kp (Gd ob) (xgK ob);have af:=ab.held au (by rw[Eb Zo];omega);obtain⟨d0,d1,d2,d3,d4,d5,d6,d7,d8,d9,a0⟩:=xr4 hU.box;obtain⟨e0,e1,e2,e3,e4,e5,e6,e7,e8,e9,D⟩:=xqq (st:=⟨[],[],0,0⟩) af;have rf:=BN af;have bp:¬ w.heap.size+2=ob:=by omega
 have bo:¬ ob=w.heap.size+2:=by omega
 have HQ:Hid (∀U',Below w.heap.size U U'->Keeps (λb=>b≠w.heap.size+2) U U'->xqt w X r (.returned (CaV (qS a3 X.cz.length k3) (qS a4 r.1.heap.length k4) X.ez r.1 (qS a5 m5 k5) (qS g5 j5 i5) r.2.hits r.2.nots)) U'):=by
  intro U' F j;have bk:=d.size;have bi:Below w.heap.size w3 w4:=i.below (λb hb=>by rw[Eb Zo];omega) Zo;have bh:Below w.heap.size w4 U:=ab.below (λb hb=>by rw[Eb Zo];omega) (BX Zo i.size);have bb:qY w U':=((((Bh ar.out d).trans bi).trans bh).trans F);have a9:∀ {P:Nat->Prop},(∀b,P b->b≠ob)->Keeps P w4 U:=λhP=>Keeps.of_block λb hb hl=>ab.blk b hl (by rw[Eb (hP b hb)];omega);have bs:ob<w3.heap.size:=by omega
  have ak:T4 ob=3:=p.to3;have bq:T4 (w.heap.size+2)=0:=by rw[y _ Zo];exact Eb Zo
  refine⟨bb,_,_,_,_,rfl,(q.keep Bw (a9 λb hb=>by have:=hb.1;omega) λ_ h=>h).keep Bw (j.mono λb hb=>by have:=hb.1;omega) λb hb=>by have:=hb.1;omega,(o.keep BB (a9 λb hb=>by have:=hb.1;omega) λ_ h=>h).keep BB (j.mono λb hb=>by have:=hb.1;omega) λb hb=>by have:=hb.1;omega,?_,?_⟩
  ·exact (u.keep Dc (a9 λb hb e=>by rw[e] at hb;have:=hb.2.2;rw[ak] at this;omega) λ_ h=>h).keep Dc (j.mono λb hb=>by have:=hb.1;omega) λb hb=>by have:=hb.1;omega
  exact (B.keep xbD (a9 λb hb e=>by rw[e] at hb;have:=hb.2.2;rw[ak] at this;omega) λ_ h=>h).keep xbD (j.mono λb hb=>by have:=hb.1;omega) λb hb=>by have:=hb.1;omega
 clear ab af hU m u B p i q o y aj ad a6 ao ae am f0 f1 f2 f3 b0 b1 b2 b3 b4 b5 b6 b7 b8 b9 G bf au;go_wp2;rw[bd.out];refine Bt (v:=CaV (qS a3 X.cz.length k3) (qS a4 r.1.heap.length k4) X.ez r.1 (qS a5 m5 k5) (qS g5 j5 i5) r.2.hits r.2.nots) ?_ rfl (HQ.out _ (((((((((((Br _ U).setCell (by simp) _).setCell (by simp) _).setCell (by simp) _).setCell (by simp) _).setCell (by simp) _).setCell (by simp) _).setCell (by simp) _).setCell (by simp) _).setCell (by simp) _).setCell (by simp) _ |>.setCell (by simp) _) (Keeps.of_block λb hb _=>by rw[BS hb,BS hb,BS hb,BS hb,BS hb,BS hb,BS hb,BS hb,BS hb,BS hb,BS hb]));simp[results,Tryz.results86,go_sem,e0,e1,e2,e3,e4,e5,e6,e7,e8,e9,D]
def PlPost (w:qW)(X:QW)(r:Ran)(e:Ending)(w':qW):Prop:=
 qY w w'/\∃cv hv,e=.returned (.tuple #[WV cv hv X.ez,Hh r])/\BK (λb=>w.heap.size<=b) w' cv X.cz/\BP (λb=>w.heap.size<=b) w' hv r.heap
theorem WiPost.plain {σ:Type}{L:(Nat->Nat)->World->σ->Nat->Prop}{w w':qW}{X:QW}{r:Ran × σ}{e:Ending}(h:WiPost L (λ_=>0) w X r e w'):PlPost w X r.1 e w':=by
 obtain⟨d,T',-,-,cv,hv,rfl,a,c⟩:=h;exact⟨d.below (λb _=>by omega) (Bq _),cv,hv,rfl,a.mono Bw λb h=>h.1,c.mono BB λb h=>h.1⟩
theorem PlPost.fin {w U:qW}{X:QW}{r:Ran}{cv hv:Value}{P:Nat->Prop}(e:qY w U)(d:BK P U cv X.cz)(f:BP P U hv r.heap)(b:¬ P (w.heap.size+2))(a:¬ P (w.heap.size+3))(c:∀x,P x->w.heap.size<=x)(u0 u1 u2 v0 v1 v2 v3:Value) :
  PlPost w X r (.returned (.tuple #[WV cv hv X.ez,Hh r])) (((((((U.setCell (O (w.heap.size+2) 0) u0).setCell (O (w.heap.size+2) 1) u1).setCell (O (w.heap.size+2) 2) u2).setCell (O (w.heap.size+3) 0) v0).setCell (O (w.heap.size+3) 1) v1).setCell (O (w.heap.size+3) 2) v2).setCell (O (w.heap.size+3) 3) v3):=by
 have k:Keeps P U (((((((U.setCell (O (w.heap.size+2) 0) u0).setCell (O (w.heap.size+2) 1) u1).setCell (O (w.heap.size+2) 2) u2).setCell (O (w.heap.size+3) 0) v0).setCell (O (w.heap.size+3) 1) v1).setCell (O (w.heap.size+3) 2) v2).setCell (O (w.heap.size+3) 3) v3):=CK (CK (CK (CK (CK (CK (CK (Keeps.refl _ _) b _) b _) b _) a _) a _) a _) a _;refine⟨((((((e.setCell (by simp) _).setCell (by simp) _).setCell (by simp) _).setCell (by simp) _).setCell (by simp) _).setCell (by simp) _).setCell (by simp) _,cv,hv,rfl,d.keep Bw k c,f.keep BB k c⟩
structure PnR (w:qW)(cv hv:Value)(ep:Int)(s:QV)(name:ByteArray)(av:Value)(w':qW):Prop where
 w0:w'.cell? (O w.heap.size 0)=some cv
 w1:w'.cell? (O w.heap.size 1)=some hv
 w2:w'.cell? (O w.heap.size 2)=some (J ep)
 c0:w'.cell? (O (w.heap.size+1) 0)=some (J s.k)
 c1:w'.cell? (O (w.heap.size+1) 1)=some (J s.n)
 c2:w'.cell? (O (w.heap.size+1) 2)=some (qZ name)
 c3:w'.cell? (O (w.heap.size+1) 3)=some av
theorem PnR.set {w:qW}{cv hv:Value}{ep:Int}{s:QV}{name:ByteArray}{av:Value}{w':qW}(h:PnR w cv hv ep s name av w'){b:Nat}(a:b=w.heap.size+2\/b=w.heap.size+3)(o:Nat)(u:Value):PnR w cv hv ep s name av (w'.setCell (O b o) u):=
 ⟨(BV _ _ _ _ (by simp;omega)).trans h.w0,(BV _ _ _ _ (by simp;omega)).trans h.w1,(BV _ _ _ _ (by simp;omega)).trans h.w2,(BV _ _ _ _ (by simp;omega)).trans h.c0,(BV _ _ _ _ (by simp;omega)).trans h.c1,(BV _ _ _ _ (by simp;omega)).trans h.c2,(BV _ _ _ _ (by simp;omega)).trans h.c3⟩
theorem PnR.al {w:qW}{cv hv:Value}{ep:Int}{s:QV}{name:ByteArray}{av:Value}{w':qW}(h:PnR w cv hv ep s name av w'):w'.cell? (O w.heap.size 0)=some cv/\w'.cell? (O w.heap.size 1)=some hv/\w'.cell? (O w.heap.size 2)=some (J ep)/\w'.cell? (O (w.heap.size+1) 0)=some (J s.k)/\w'.cell? (O (w.heap.size+1) 1)=some (J s.n)/\w'.cell? (O (w.heap.size+1) 2)=some (qZ name)/\w'.cell? (O (w.heap.size+1) 3)=some av:=⟨h.w0,h.w1,h.w2,h.c0,h.c1,h.c2,h.c3⟩
theorem WtR.pn {w:qW}{cv hv:Value}{ep:Int}{s:QV}{name:ByteArray}{av:Value}{w':qW}(h:WtR w cv hv ep s name av w'):PnR w cv hv ep s name av w':=⟨h.w0,h.w1,h.w2,h.c0,h.c1,h.c2,h.c3⟩
theorem xmG (cv hv:Value)(ep:Int)(w:qW)(b:∃a n c,cv=qS a n c)(d:∃a n c,hv=qS a n c):Calls Tryz.prog 109 #[WV cv hv ep] w λe w'=>e=.returned (.func (.func 141) #[] #[qP w.heap.size])/\w'.cell? (O w.heap.size 0)=some cv/\w'.cell? (O w.heap.size 1)=some hv/\w'.cell? (O w.heap.size 2)=some (J ep)/\w.heap.size<w'.heap.size/\qY w w':=by
 obtain⟨a,n,c,rfl⟩:=b;obtain⟨a2,n2,c2,rfl⟩:=d;go_enter Tryz.func109,Tryz.ntmps109;go_wp2;go_ret;exact⟨rfl,Bp _ _ _ _ rfl 0,Bp _ _ _ _ rfl 1,Bp _ _ _ _ rfl 2,by simp,Bg _ _⟩
theorem PM (X:QW)(b:Nat)(cv hv:Value):Lok (LkP X b cv hv):=⟨λh e k a _=>h.keep e k a,λh _=>⟨h.tag,h.lt,h.w0,h.w1,h.w2,h.cls,h.heap⟩⟩
theorem xpX {X:QW}(f:BM X=0){fuel:Int}(g:fuel<=400)(b:Nat)(cv hv a:Value):Cx (⟨Ht X fuel,a,X.ez,.func (.func 141) #[] #[qP b],.func (.func 110) #[] #[]⟩:Mp Unit) (LkP X b cv hv) 141 #[qP b] 110 #[] where
 lv:=rfl
 qv:=rfl
 lcf:=Pg Tryz.func141 (by kernel_rfl) (by kernel_rfl)
 qcf:=Pg Tryz.func110 (by kernel_rfl) (by kernel_rfl)
 ok:=xiV f fuel _
 fuel:=by show fuel<=_;omega
 keep h e k h0 h3:=h.keep e k h0
 mono h hn:=(PM X b cv hv).mono h hn
 look T w st s c name n h:=(xkx h s c name).mono λe w' d=>⟨d.1,⟨T,.refl _ _,(PM X b cv hv).mono (h.keep (T':=T) (.refl _ _) (Kp.of_below (S:=λ_=>False) d.2) id) (Nat.le_succ n)⟩,Kp.of_below d.2⟩
 quick T w st c k mt n _ _:=xio (λ_ _=>rfl) T w st c k mt n
 few c k mt hm:=⟨by have:=xgI f hm;omega,λq h=>by cases h⟩
theorem xrT {P Q:Nat->Prop}(X:QW)(d:BM X=0)(s:QV)(name:ByteArray)(a:List QV)(fuel:Int)(cv hv av:Value)(w:qW)(j:BK P w cv X.cz)(l:BP P w hv X.heap)(k:CG Q w av a)(i:name.size<=140737488351232)(b:Nat)(f:b<w.heap.size)(f0:w.cell? (O b 0)=some cv)(f1:w.cell? (O b 1)=some hv)(f2:w.cell? (O b 2)=some (J X.ez)) :
  Calls Tryz.prog 108 #[WV cv hv X.ez,EL s name av,J fuel,.func (.func 141) #[] #[qP b],.func (.func 110) #[] #[]] w λe w'=>PlPost w X (Dz X s name a fuel) e w':=by
 have k3:BK (Fx (λ_=>0) w) w cv X.cz:=(xdx j).keep Bw (Keeps.refl _ _) λb c=>⟨c,rfl⟩
 have k4:BP (Fx (λ_=>0) w) w hv X.heap:=(xfO l).keep BB (Keeps.refl _ _) λb c=>⟨c,rfl⟩
 rw[← xef];exact (xiL (T0:=λ_=>0) X d (Ht X fuel) () rfl s name a cv hv av w (λ_ _=>.inl rfl) k3 k4 ((xek k).keep BZ (Keeps.refl _ _) λb c=>⟨c,rfl⟩) i (PM X b cv hv) ⟨rfl,f,f0,f1,f2,k3,k4⟩ (λ_ g cv'=>xpX d g b cv hv cv')).mono λe w' h=>h.plain
theorem xnC {P Q:Nat->Prop}(X:QW)(L:BM X=0)(s:QV)(name:ByteArray)(a:List QV)(fuel:Int)(cv hv av:Value)(w:qW)(G:BK P w cv X.cz)(F:BP P w hv X.heap)(C:CG Q w av a)(M:name.size<=140737488351232) :
  Calls Tryz.prog 84 #[WV cv hv X.ez,EL s name av,J fuel] w λe w'=>PlPost w X (Dz X s name a fuel) e w':=by
 have K:=(xkJ w cv hv X.ez s name av).later (Br _ _).drew;have y:qY w ((((w.alloc (qC #[cv,hv,J X.ez] 26)).alloc (qC #[J s.k,J s.n,qZ name,av] 54)).alloc (qO)).alloc (qC #[J 0,J 0,J 0,J 0] 98)).drew:=(Bh (BG _ _ _) (BG _ _ _)).drew;obtain⟨ac,cc,rfl,-,-,l,-⟩:=id G;obtain⟨ah,ch,rfl,-,-,h,-⟩:=id F;obtain⟨aa,ca,rfl,-⟩:=id C;go_enter Tryz.func84,Tryz.ntmps84;go_upto_region 1 with (fail);generalize ((((w.alloc (qA ac cc ah ch X)).alloc (qK s name aa a ca)).alloc (qO)).alloc (qC #[J 0,J 0,J 0,J 0] 98))=W at *;have B:=K.pn;have u:=xmG (qS ac X.cz.length cc) (qS ah X.heap.length ch) X.ez W.drew ⟨_,_,_,rfl⟩ ⟨_,_,_,rfl⟩;have q:=λ(w':qW) (hb:qY w w') (b:Nat) (h1:b<w'.heap.size) h2 h3 h4=>xrT X L s name a fuel _ _ _ w' (G.later Bw hb) (F.later BB hb) (C.later BZ hb) M b h1 h2 h3 h4;obtain⟨r,D⟩:∃r,Dz X s name a fuel=r:=⟨_,rfl⟩;rw[D] at q;have z:=hid D;clear G F C D;simp only[Nat.add_assoc,Nat.reduceAdd] at *;have tokA:True:=trivial
 go_region_held3 (λw'=>w'.cell? (O w.heap.size 0)=some (qS ac X.cz.length cc)/\w'.cell? (O w.heap.size 1)=some (qS ah X.heap.length ch)/\w'.cell? (O w.heap.size 2)=some (J X.ez)/\w'.cell? (O (w.heap.size+1) 0)=some (J s.k)/\w'.cell? (O (w.heap.size+1) 1)=some (J s.n)/\w'.cell? (O (w.heap.size+1) 2)=some (qZ name)/\w'.cell? (O (w.heap.size+1) 3)=some (qS aa a.length ca))
  (first | with_reducible exact B.al | with_reducible exact H.al | with_reducible exact o.al | with_reducible exact (((o.set (Or.inl rfl) _ _).set (Or.inl rfl) _ _).set (Or.inl rfl) _ _).al | with_reducible exact (((((((o.set (Or.inl rfl) _ _).set (Or.inl rfl) _ _).set (Or.inl rfl) _ _).set (Or.inr rfl) _ _).set (Or.inr rfl) _ _).set (Or.inr rfl) _ _).set (Or.inr rfl) _ _).al | with_reducible exact ((((o.set (Or.inr rfl) _ _).set (Or.inr rfl) _ _).set (Or.inr rfl) _ _).set (Or.inr rfl) _ _).al)
  (first
   | (have _t:=tokA;go_at_call 109;refine u.mono ?_;rintro e w2 ⟨rfl,f0,f1,f2,fz,f⟩;have m:=K.later f;have H:=m.pn;have p:=Bh y f;clear tokA;have tokB:True:=trivial)
   | (have _t:=tokB;go_at_call 108;refine (q _ p _ fz f0 f1 f2).mono ?_;rintro e w3 ⟨g,j,i,rfl,d,c⟩;have t:=m.later g;have o:=t.pn;have N:=hid (λu0 u1 u2 v0 v1 v2 v3=>PlPost.fin (r:=r) (X:=X) (P:=λb=>w2.heap.size<=b) (Bh p g) d c (by have:=m.sz;omega) (by have:=m.sz;omega) (λx R=>by have:=m.sz;omega) u0 u1 u2 v0 v1 v2 v3);obtain⟨a3,k3,rfl,-⟩:=id d;obtain⟨a4,k4,rfl,-⟩:=id c;obtain⟨-,-,-,-,-,-,-,a0,a1,a2,af,b0,b1,b2,b3,bf,-⟩:=id t;clear d c))
 all_goals (
  go_wp2;rw[z.out];refine Bt (v:=.tuple #[WV (qS a3 X.cz.length k3) (qS a4 r.heap.length k4) X.ez,Hh r]) ?_ rfl (N.out _ _ _ _ _ _ _);simp[results,Tryz.results84,go_sem,a0,a1,a2,b0,b1,b2,b3])
def Pd (xs:List QC):Prop:=∀(i:Nat) x,xs[i]?=some x->x.super<(i:Int)
theorem xfx {X:QW}(h:BM X=0):Pd X.cz:=λi x e=>by
 obtain⟨-,g,-,-⟩:=Gx h;have a:=g i x (Bz e) e;unfold CY at a;split at a
 ·cases a
 cases b:xo1[i]? with
 | none=>
  rw[b] at a;simp only at a;have d:4<=i:=by rw[List.getElem?_eq_none_iff] at b;simpa [xo1] using b
  split at a
  ·cases a
  split at a
  ·cases a
  rename_i _ j;simp[Dj] at j;omega
 | some y=>
  rw[b] at a;simp only at a;split at a
  ·cases a
  split at a
  ·cases a
  split at a
  ·cases a
  rename_i f;have c:x.super=y.super:=by simpa using f
  rw[c];have d:=Bz b;have:i=0\/i=1\/i=2\/i=3:=by simp[xo1] at d;omega
  rcases this with rfl | rfl | rfl | rfl<;>(simp[xo1] at b;subst b;simp)
theorem xiy {σ:Type}{b a:σ->Nat->QC->σ × Bool}{xs ys:List QC}(n:Pd xs)(m:∀(i:Nat) x,xs[i]?=some x->∃y,ys[i]?=some y/\y.super=x.super/\∀s,a s i y=b s i x):∀(N:Nat) (c:Int) (g g':Nat) (s:σ),c<N->c<xs.length->c.toNat<g->c.toNat<g'->Df a ys g' c s=Df b xs g c s
 | 0,c,g+1,g'+1,s,hN,hl,hg,hg'=>by
  have h:Cy xs c=none:=by simp[Cy];omega
  have j:Cy ys c=none:=by simp[Cy];omega
  unfold Df;rw[h,j]
 | N+1,c,g+1,g'+1,s,hN,hl,hg,hg'=>by
  by_cases hc:c<0
  ·have h:Cy xs c=none:=by simp[Cy];omega
   have j:Cy ys c=none:=by simp[Cy];omega
   unfold Df;rw[h,j]
  obtain⟨k,rfl⟩:∃k:Nat,c=(k:Int):=⟨c.toNat,by omega⟩
  obtain⟨x,l⟩:∃x,xs[k]?=some x:=⟨_,List.getElem?_eq_getElem Zo⟩
  obtain⟨y,e,d,f⟩:=m k x l;have o:=n k x l;unfold Df;rw[Mv,Mv,l,e];simp only[Int.toNat_natCast];rw[f,d];by_cases hv:(b s k x).2=true
  ·rw[if_pos hv,if_pos hv];by_cases h0:x.super<0
   ·have h:Cy xs x.super=none:=by simp[Cy];omega
    have j:Cy ys x.super=none:=by simp[Cy];omega
    cases g<;>cases g'<;>unfold Df<;>simp only[h,j]
   ·exact xiy n m N x.super g g' _ Zo Zo Zo Zo
  rw[if_neg hv,if_neg hv]
theorem xqi {σ:Type}(a:σ->Nat->QC->σ × Bool){xs:List QC}(e:Pd xs)(z:List QC){c:Int}(d:c<xs.length)(s:σ):Df a (xs++z) ((xs++z).length+1) c s=Df a xs (xs.length+1) c s:=
 xiy e (λi x b=>⟨x,by rw[List.getElem?_append_left (Bz b)];exact b,rfl,λ_=>rfl⟩) xs.length c _ _ s d d (by omega) (by rw[List.length_append];omega)
theorem xhN {xs:List QC}(a:Pd xs)(z:List QC){c:Int}(b:c<xs.length):Cs (xs++z) c=Cs xs c:=xqi Kt a z b 0
theorem xna {S n n':Int}{m:QM}{x:QI}(h:DD S n m x=0)(d:n<=n'):DD S n' m x=0:=by
 unfold DD at h ⊢;split at h
 ·cases h
 rename_i b;rw[if_neg b];split at h
 ·cases h
 rename_i c
 have:Ew S n' m x=true:=by
  have a:Ew S n m x=true:=by simpa using c
  unfold Ew at a ⊢
  repeat' split at a
  all_goals try (rename_i k;simp only[k,if_true,if_false];try exact a)
  all_goals (simp[*] at a ⊢;try (simp[Cj] at a ⊢);try omega)
 rw[if_neg (by simp[this])];exact h
theorem xmX {S n n' c:Int}{m:QM}(h:(Em S n c m).1=0)(e:n<=n'):(Em S n' c m).1=0:=by
 unfold Em at h ⊢;by_cases hw:DF n c m=0
 ·have b:DF n' c m=0:=by
   unfold DF at hw ⊢;split at hw
   ·cases hw
   rename_i d;have:Cj c 0 (n'-1)=true:=by simp[Cj] at d ⊢;omega
   rw[if_neg (by simp[this])];exact hw
  rw[if_neg (by simp[hw])] at h;rw[if_neg (by simp[b])]
  cases a:FX (DD S n m) 0 m.code with
  | some f=>rw[a] at h;exact absurd h (xge a)
  | none=>
   rw[a] at h;rw[xgs λi y g=>xna (PR a y (List.mem_of_getElem? g)) e];exact h
 rw[if_pos hw] at h;exact absurd h hw
theorem xlY {X:QW}(b:SizeOk X)(c:∀i x,X.cz[i]?=some x->CY X.cz i x=0)(d:∀i x,X.cz[i]?=some x->Dm X i x=0)(f:HOk X.cz X.heap):BM X=0:=by
 refine xiv b (λi x _ a=>c i x a) (λi x _ a=>d i x a) λi o g e=>?_;obtain⟨e1,e2,e3⟩:=f.obj o (List.mem_of_getElem? e);unfold Ev;rw[if_neg (by simp[e1,e2])];exact KL λk v hv=>e3 v (List.mem_of_getElem? hv)
theorem xq3 {X:QW}{k:Nat}{x:QC}(h:Dm X k x=0):Cs X.cz k<=6/\x.mz.length<=8/\∀(i:Nat) m,x.mz[i]?=some m->Dn X k x.mz i m=0:=by
 unfold Dm at h;split at h
 ·cases h
 split at h
 ·cases h
 exact⟨by omega,by omega,λi m a=>Hm h i m a⟩
theorem xo6 {X:QW}{k:Nat}{x:QC}(b:Cs X.cz k<=6)(c:x.mz.length<=8)(a:∀(i:Nat) m,x.mz[i]?=some m->Dn X k x.mz i m=0):Dm X k x=0:=by
 unfold Dm;rw[if_neg (by omega),if_neg (by omega)];exact KL a
theorem xis {X:QW}{k:Nat}{ms:List QM}(h:∀(i:Nat) m,ms[i]?=some m->Dn X k ms i m=0):xlo ms:=λi a b d e=>by
 have:=h (i+1) b e;unfold Dn at this;split at this
 ·cases this
 rename_i c;simp only[GW,d] at c;simpa using c
def mOk (S:Int)(n:Nat)(k:Nat)(m:QM):Prop:=Ft k m=true\/(Em S n k m).1=0
theorem xri {X:QW}{k:Nat}{ms:List QM}{i:Nat}{m:QM}(h:Dn X k ms i m=0):mOk (Cs X.cz k) X.cz.length k m:=by
 unfold Dn at h;split at h
 ·cases h
 split at h
 ·rename_i a;exact Or.inl a
 exact Or.inr h
theorem xqJ {X:QW}{k:Nat}{ms:List QM}{i:Nat}{m:QM}(c:xlo ms)(a:ms[i]?=some m)(h:mOk (Cs X.cz k) X.cz.length k m):Dn X k ms i m=0:=by
 have d:GW ms i m=true:=by
  cases i with
  | zero=>rfl
  | succ i=>
   obtain⟨p,b⟩:∃p,ms[i]?=some p:=⟨_,List.getElem?_eq_getElem (by have:=Bz a;omega)⟩
   simp only[GW,b];exact c i p m b a
 unfold Dn;rw[if_neg (by simp[d])];rcases h with h | h
 ·rw[if_pos h]
 split
 ·rfl
 exact h
theorem xmY {X:QW}(h:BM X=0){name:ByteArray}{super slots:Int}(u:EF X.cz name super slots=0):BM (DZ X name super slots)=0:=by
 obtain⟨z,Y,hM,-⟩:=Gx h;have W:=Pp h;have Q:=xfx h;have F:=xdt h super;unfold EF at u;split at u
 ·cases u
 rename_i U;split at u
 ·cases u
 rename_i T;split at u
 ·cases u
 rename_i f;split at u
 ·cases u
 rename_i hl;simp only[not_or,Bool.not_eq_true,Bool.not_eq_false,Int.not_lt] at U f T;obtain⟨l,a⟩:=U;obtain⟨b,n,k⟩:=f;have D:0<=super/\super<X.cz.length:=by simpa [Dg] using T
 have hp:super=0\/4<=super:=by simp[ML] at k;omega
 have q:(DZ X name super slots).cz.length=X.cz.length+1:=by simp[DZ]
 have r:(DZ X name super slots).cz=X.cz++[⟨name,super,slots,[]⟩]:=rfl
 have G:∀i x,X.cz[i]?=some x->CY (DZ X name super slots).cz i x=0:=λi x p=>by
  have:=Y i x (Bz p) p
  have e:Gh (DZ X name super slots).cz i x.name=Gh X.cz i x.name:=by
   unfold Gh;rw[r,List.take_append_of_le_length (by have:=Bz p;omega)]
  unfold CY at this ⊢;rw[e];exact this
 refine xlY ⟨by rw[q];have:=z.few;omega,by rw[q];omega,z.heap,z.ep0,z.ep1⟩ (λi x p=>?_) (λi x p=>?_) ⟨z.heap,λo V=>?_⟩
 ·rw[r] at p;by_cases v:i<X.cz.length
  ·rw[List.getElem?_append_left v] at p;exact G i x p
  have B:i=X.cz.length:=by have:=Bz p;simp at this;omega
  subst B;rw[List.getElem?_append_right (Bq _)] at p;simp at p;subst p;have Z:xo1[X.cz.length]?=none:=by rw[List.getElem?_eq_none_iff];have:=z.few;simpa [xo1] using this
  unfold CY;simp only;rw[if_neg (by simp[l]),Z];simp only
  have H:Gh (DZ X name super slots).cz X.cz.length name=false:=xro λi d v H=>by
   rw[r,List.getElem?_append_left v] at H
   cases B:CD d.name name with
   | false=>rfl
   | true=>
    exfalso;simp only[NC,decide_eq_false_iff_not] at a
    apply a
    unfold CB
    cases S:X.cz.findIdx? λm=>CD m.name name with
    | some j=>simp
    | none=>
     rw[List.findIdx?_eq_none_iff] at S;have:=S d (List.mem_of_getElem? H);rw[B] at this
     cases this
  rw[if_neg (by simp[H]),if_neg (by simp[Dj];omega),if_neg (by have:=F.2;omega)]
 ·rw[r] at p;by_cases v:i<X.cz.length
  ·rw[List.getElem?_append_left v] at p;obtain⟨r1,r2,r3⟩:=xq3 (hM i x v p);have es:Cs (DZ X name super slots).cz i=Cs X.cz i:=xhN Q _ Zo;refine xo6 (by rw[es];exact r1) r2 λj m K=>xqJ (xis r3) K ?_;rw[es,q];rcases xri (r3 j m K) with h | h
   ·exact Or.inl h
   exact Or.inr (xmX h Zo)
  have B:i=X.cz.length:=by have:=Bz p;simp at this;omega
  subst B;rw[List.getElem?_append_right (Bq _)] at p;simp at p;subst p;refine xo6 ?_ (by simp) λj m K=>by simp at K
  have e1:Cs (DZ X name super slots).cz ((X.cz.length:Nat):Int)=Df Kt (DZ X name super slots).cz (X.cz.length+1) super (IntKind.i64.wrap (0+slots)):=by
   unfold Cs;rw[q]
   conv=>lhs;unfold Df
   rw[Mv,r,List.getElem?_append_right (Bq _)];simp[Kt]
  have N:slots<=6:=by have:=F.2;omega
  have R:IntKind.i64.wrap (0+slots)=slots:=by rw[Int.zero_add];exact CM Zo Zo
  have M:Hj (X.cz++[⟨name,super,slots,[]⟩]):=λi y C=>by
   by_cases v:i<X.cz.length
   ·rw[List.getElem?_append_left v] at C;exact PY h i y C
   have B:i=X.cz.length:=by have:=Bz C;simp at this;omega
   subst B;rw[List.getElem?_append_right (Bq _)] at C;simp at C;subst C;exact⟨b,N⟩
  have L:=z.many;rw[e1,R,r,xgY M (by simp;omega) _ _ _ b Zo]
  have e2:Df Hy (X.cz++[⟨name,super,slots,[]⟩]) (X.cz.length+1) super slots=slots+DY X.cz super:=by
   have e3:Df Hy (X.cz++[⟨name,super,slots,[]⟩]) (X.cz.length+1) super slots=Df Hy X.cz (X.cz.length+1) super slots:=xiy Q (λi x p=>⟨x,by rw[List.getElem?_append_left (Bz p)];exact p,rfl,λ_=>rfl⟩) X.cz.length super _ _ _ D.2 D.2 Zo Zo;rw[e3]
   have e4:∀(g:Nat) (c s t:Int),Df Hy X.cz g c (s+t)=s+Df Hy X.cz g c t:=λg=>by
    induction g with
    | zero=>intro c s t;rfl
    | succ g ih=>
     intro c s t;unfold Df
     cases Cy X.cz c with
     | none=>rfl
     | some x=>
      simp only[Hy,if_true];rw[Int.add_assoc];exact ih _ _ _
   have:=e4 (X.cz.length+1) super slots 0;rw[Int.add_zero] at this;rw[this];rfl
  rw[e2];omega
 obtain⟨o1,o2,o3⟩:=W.obj o V;refine⟨by rw[q];simp[Dj] at o1 ⊢;omega,?_,o3⟩;rw[o2,r,xhN Q _ (by simp[Dj] at o1;omega)]
theorem xfK {α:Type}{p:α->Bool}{xs:List α}(h:0<=CB p xs):∃x,xs[(CB p xs).toNat]?=some x/\p x=true/\∀i y,i<(CB p xs).toNat->xs[i]?=some y->p y=false:=by
 unfold CB at h ⊢
 cases b:xs.findIdx? p with
 | none=>rw[b] at h;simp at h
 | some j=>
  simp only[Option.map_some,Option.getD_some,Int.ofNat_eq_natCast,Int.toNat_natCast];rw[List.findIdx?_eq_some_iff_getElem] at b;obtain⟨e,d,g⟩:=b;refine⟨xs[j],by simp[e],d,λi y f c=>?_⟩;have a:=Bz c;have:=g i f;rw[List.getElem?_eq_getElem a] at c
  cases c;simpa using this
theorem xlw {α:Type}{p:α->Bool}{xs:List α}(h:CB p xs<0):∀y∈xs,p y=false:=by
 unfold CB at h
 cases a:xs.findIdx? p with
 | some j=>rw[a] at h;simp at h;omega
 | none=>rw[List.findIdx?_eq_none_iff] at a;exact a
theorem xrR {xs:List QM}{m y:QM}(h:y∈HW xs m):y=m\/y∈xs:=by
 unfold HW at h;split at h
 ·rcases List.mem_or_eq_of_mem_set h with h | h
  ·exact Or.inr h
  exact Or.inl h
 simp only[List.append_assoc,List.mem_append,List.mem_cons,List.not_mem_nil,or_false] at h;rcases h with h | h | h
 ·exact Or.inr (List.mem_of_mem_take h)
 ·exact Or.inl h
 exact Or.inr (List.mem_of_mem_drop h)
theorem xqN {a b c:ByteArray}(h:CD a b=true)(k:FK c a=true):FK c b=true:=by
 unfold FK at k ⊢;rw[← xed.1 h];exact k
theorem xn5 {xs:List QM}(v:xlo xs)(m:QM):xlo (HW xs m):=by
 unfold HW;split
 ·rename_i h;obtain⟨x,z,B,-⟩:=xfK (p:=λy:QM=>CD y.name m.name) h;have K:=Bz z;have n:xs[(CZ xs m.name).toNat]?=some x:=z;generalize (CZ xs m.name).toNat=j at n ⊢;intro i a b t g;rw[List.getElem?_set] at t g;by_cases o:j=i
  ·subst o;rw[if_pos rfl,if_pos (Bz n)] at t;rw[if_neg Zo] at g
   cases t;exact xr2 B (v j x b n g)
  rw[if_neg o] at t;by_cases l:j=i+1
  ·subst l;rw[if_pos rfl,if_pos (Bz n)] at g
   cases g;exact xqN B (v i a x t n)
  rw[if_neg l] at g;exact v i a b t g
 rename_i h;have D:=xlw (p:=λy:QM=>CD y.name m.name) (show CZ xs m.name<0 by omega);obtain⟨d,c⟩:=xgH (xs:=xs) (name:=m.name)
 have r:∀i y,i<(GB xs m.name).toNat->xs[i]?=some y->FK y.name m.name=true:=λi y F e=>by
  have G:GK y.name m.name=false:=by
   by_cases u:CB (λy:QM=>GK y.name m.name) xs<0
   ·exact xlw u y (List.mem_of_getElem? e)
   unfold GB at F;rw[if_neg u] at F;obtain⟨-,-,-,g⟩:=xfK (p:=λy:QM=>GK y.name m.name) (xs:=xs) Zo;exact g i y F e
  have H:=D y (List.mem_of_getElem? e);rcases xiH y.name.toList m.name.toList with h | h | h
  ·exact h
  ·rw[xed.2 h] at H;cases H
  rw[xoq.2 h] at G;cases G
 have s:∀y,xs[(GB xs m.name).toNat]?=some y->FK m.name y.name=true:=λy e=>by
  have u:¬ CB (λy:QM=>GK y.name m.name) xs<0:=λu=>by
   unfold GB at e;rw[if_pos u] at e;have:=Bz e;simp at this
  obtain⟨x,z,B,-⟩:=xfK (p:=λy:QM=>GK y.name m.name) (xs:=xs) Zo;unfold GB at e;rw[if_neg u,z] at e
  cases e;exact xoq.1 B
 generalize (GB xs m.name).toNat=p at c r s;intro i a b t g;have C:(xs.take p).length=p:=by simp;omega
 have at':∀k y,(xs.take p++[m]++xs.drop p)[k]?=some y->(k<p/\xs[k]?=some y)\/(k=p/\y=m)\/(p<k/\xs[k-1]?=some y):=λk y e=>by
  by_cases o:k<p
  ·rw[List.append_assoc,List.getElem?_append_left Zo,List.getElem?_take,if_pos o] at e;exact Or.inl ⟨o,e⟩
  rw[List.append_assoc,List.getElem?_append_right Zo,C] at e;by_cases l:k=p
  ·subst l;simp at e;exact Or.inr (Or.inl ⟨rfl,e.symm⟩)
  rw[List.getElem?_append_right (by simp;omega),List.getElem?_drop] at e;simp only[List.length_cons,List.length_nil] at e;exact Or.inr (Or.inr ⟨by omega,by rw[← e];congr 1;omega⟩)
 rcases at' i a t with ⟨o,q⟩ | ⟨o,rfl⟩ | ⟨o,q⟩
 ·rcases at' (i+1) b g with ⟨l,f⟩ | ⟨l,rfl⟩ | ⟨l,f⟩
  ·exact v i a b q f
  ·exact r i a o q
  omega
 ·rcases at' (i+1) b g with ⟨l,f⟩ | ⟨l,rfl⟩ | ⟨l,f⟩
  ·omega
  ·omega
  subst o;exact s b f
 rcases at' (i+1) b g with ⟨l,f⟩ | ⟨l,rfl⟩ | ⟨l,f⟩
 ·omega
 ·omega
 exact v (i-1) a b q (by rw[← f];congr 1;omega)
theorem xqV (xs:List QM)(m:QM):(HW xs m).length<=xs.length+1/\(0<=CZ xs m.name->(HW xs m).length=xs.length):=by
 unfold HW;split
 ·exact⟨by simp,λ_=>by simp⟩
 rename_i h;obtain⟨-,a⟩:=xgH (xs:=xs) (name:=m.name);exact⟨by simp;omega,λk=>absurd k h⟩
theorem xnn (xs ys:List QC)(h:ys.map (·.name)=xs.map (·.name))(k:Nat)(nm:ByteArray):Gh ys k nm=Gh xs k nm:=by
 have e:∀l:List QC,Gh l k nm=((l.map (·.name)).take k).any λd=>CD d nm:=λl=>by
  unfold Gh;rw[← List.map_take,List.any_map];rfl
 rw[e,e,h]
theorem xoK {xs:List QC}(j:Pd xs){c:Nat}{x y:QC}(d:xs[c]?=some x)(e:y.super=x.super)(f:y.slots=x.slots){k:Int}(b:k<xs.length):Cs (xs.set c y) k=Cs xs k:=by
 have g:=Bz d;refine xiy j (λi z a=>?_) xs.length k _ _ 0 b b (by omega) (by simp;omega);rw[List.getElem?_set];by_cases h:c=i
 ·subst h;rw[d] at a
  cases a;rw[if_pos rfl,if_pos g];exact⟨y,rfl,e,λs=>by simp[Kt,f]⟩
 rw[if_neg h];exact⟨z,a,rfl,λ_=>rfl⟩
theorem xmk {X:QW}(h:BM X=0){c:Nat}{x:QC}(p:X.cz[c]?=some x){m:QM}(F:(Em (Cs X.cz c) X.cz.length c m).1=0)(a:0<=CZ x.mz m.name\/x.mz.length<8)(S:X.ez<1073741824):BM (Fs X c x m)=0:=by
 obtain⟨g,N,C,-⟩:=Gx h;have L:=Pp h;have H:=xfx h;have s:=Bz p;have l:(Fs X c x m).cz=X.cz.set c { x with mz:=HW x.mz m }:=rfl;have b:(Fs X c x m).cz.length=X.cz.length:=by simp[Fs]
 have r:(Fs X c x m).ez=X.ez+1:=by
  show KG X.ez=_;unfold KG;have:=g.ep0;unfold wrap64;omega
 have e:∀k:Int,k<X.cz.length->Cs (Fs X c x m).cz k=Cs X.cz k:=λk t=>xoK (y:={ x with mz:=HW x.mz m }) H p rfl rfl t
 have f:(Fs X c x m).cz.map (·.name)=X.cz.map (·.name):=by
  rw[l,List.map_set]
  apply List.ext_getElem?
  intro i;rw[List.getElem?_set];split
  ·rename_i n;subst n;rw[if_pos (by simpa using s),List.getElem?_map,p];rfl
  rfl
 have q:∀i y,X.cz[i]?=some y->∀z:QC,z.name=y.name->z.super=y.super->z.slots=y.slots->CY (Fs X c x m).cz i z=0:=λi y d z M Q R=>by
  have:=N i y (Bz d) d;unfold CY at this ⊢;rw[xnn _ _ f,M,Q,R];exact this
 refine xlY ⟨by rw[b];exact g.few,by rw[b];exact g.many,g.heap,by rw[r];have:=g.ep0;omega,by rw[r];omega⟩ (λi y d=>?_) (λi y d=>?_) ⟨g.heap,λo G=>?_⟩
 ·have n:=Bz d;rw[b] at n;rw[l,List.getElem?_set] at d;by_cases hci:c=i
  ·subst hci;rw[if_pos rfl,if_pos s] at d
   cases d;exact q c x p _ rfl rfl rfl
  rw[if_neg hci] at d;exact q i y d y rfl rfl rfl
 ·have n:=Bz d;rw[b] at n;rw[l,List.getElem?_set] at d;by_cases hci:c=i
  ·subst hci;rw[if_pos rfl,if_pos s] at d
   cases d;obtain⟨r1,r2,r3⟩:=xq3 (C c x s p);have K:=xn5 (xis r3) m;have D:=xqV x.mz m
   have u:(HW x.mz m).length<=8:=by
    rcases a with h | h
    ·rw[D.2 h];exact r2
    omega
   refine xo6 (by rw[e _ Zo];exact r1) u λj y d=>xqJ K d ?_;rw[e _ Zo,b];rcases xrR (List.mem_of_getElem? d) with rfl | v
   ·exact Or.inr F
   obtain⟨k,t⟩:=List.getElem?_of_mem v;exact xri (r3 k y t)
  rw[if_neg hci] at d;obtain⟨r1,r2,r3⟩:=xq3 (C i y n d);refine xo6 (by rw[e _ Zo];exact r1) r2 λj z B=>xqJ (xis r3) B ?_;rw[e _ Zo,b];exact xri (r3 j z B)
 obtain⟨o1,o2,o3⟩:=L.obj o G;refine⟨by rw[b];exact o1,?_,o3⟩;have T:=g.few;rw[o2,e _ (by simp[Dj] at o1;omega)]
theorem xoH {X:QW}(h:BM X=0){c:Int}(b:Dj X.cz.length c=true)(a:X.heap.length<60):BM ⟨X.cz,X.heap++[⟨c,List.replicate (DY X.cz c).toNat BC⟩],X.ez⟩=0:=
 xhe h ((Pp h).make b (by have:=xdt h c;omega) a)
theorem xry {X:QW}(h:BM X=0){e:Int}(d:0<=e)(c:e<=1073741824):BM ⟨X.cz,X.heap,e⟩=0:=by
 obtain⟨a,f,g,b⟩:=Gx h;exact xiv ⟨a.few,a.many,a.heap,d,c⟩ f g b
end Go.Proofs.YtbafokihegegiaaGreatDoor
