/- A part. -/
import Derived.Test.YtapbeiccodnniaaGreatM39
namespace Go.Proofs.YtapbeiccodnniaaGreat
open Go.ChangeShapes Go.WideShapes Go.ChangeAt Go.RowKit
set_option linter.unusedSimpArgs false
set_option linter.unusedVariables false
set_option maxHeartbeats 8000000
set_option maxRecDepth 8000
theorem xbN {α:Type}{E:Lay α}{sz bytes:Nat}{P:Nat->Prop}{w:World}{v:Value}{xs:List α}(h:IsRow E sz bytes P w v xs)(hE:∀ f x,E P w f x->E (fun b=>P b/\b<w.heap.size) w f x/\∃ u,f 0=some u):IsRow E sz bytes (fun b=>P b/\b<w.heap.size) w v xs:=by
 obtain⟨ad,cap,rfl,hl,hcap,hby,hrow⟩:=h;refine⟨ad,cap,rfl,hl,hcap,hby,fun i x hx=>?_⟩
 obtain⟨b,o,rfl,hP,hx'⟩:=hrow i x hx;obtain⟨h1,u,hu⟩:=hE _ _ hx'
 exact⟨b,o,rfl,⟨hP,World.block_lt_of_cell? w ⟨b,o+i*sz+0,none⟩ hu⟩,h1⟩
theorem xeD {P:Nat->Prop}{w:World}{v:Value}{xs:List QL}(h:xbI P w v xs):xbI (fun b=>P b/\b<w.heap.size) w v xs:=xbN h fun f x hx=>⟨hx,_,hx.1⟩
theorem xgD {P:Nat->Prop}{w:World}{v:Value}{xs:List QE}(h:xbk P w v xs):xbk (fun b=>P b/\b<w.heap.size) w v xs:=xbN h fun f x hx=>by
 obtain⟨h0,h1,h2,h3,h4,v,h5,hl⟩:=hx
 exact⟨⟨h0,h1,h2,h3,h4,v,h5,xeD hl⟩,_,h0⟩
theorem xfC {P:Nat->Prop}{w:World}{v:Value}{xs:List QT}(h:xbc P w v xs):xbc (fun b=>P b/\b<w.heap.size) w v xs:=xbN h fun f x hx=>by
 obtain⟨h0,h1,h2,v,h5,hl⟩:=hx
 exact⟨⟨h0,h1,h2,v,h5,xeD hl⟩,_,h0⟩
structure CfR (w:World)(pb wb ob:Nat)(cv hv lv tv:Value)(ep:Int)(s:QS)(st:CSt)(w':World):Prop where
 p0:w'.cell? ⟨pb,0,none⟩=some (.pointer (some ⟨ob,0,none⟩))
 w0:w'.cell? ⟨wb,0,none⟩=some cv
 w1:w'.cell? ⟨wb,1,none⟩=some hv
 w2:w'.cell? ⟨wb,2,none⟩=some (.int .i64 ep)
 s0:w'.cell? ⟨w.heap.size,0,none⟩=some (.int .i64 s.cls)
 s1:w'.cell? ⟨w.heap.size,1,none⟩=some (.string s.name)
 s2:w'.cell? ⟨w.heap.size,2,none⟩=some (.int .i64 s.at')
 o7:w'.cell? ⟨ob,7,none⟩=some lv
 o8:w'.cell? ⟨ob,8,none⟩=some tv
theorem CfR.al {w:World}{pb wb ob:Nat}{cv hv lv tv:Value}{ep:Int}{s:QS}{st:CSt}{w':World}(h:CfR w pb wb ob cv hv lv tv ep s st w'):w'.cell? ⟨pb,0,none⟩=some (.pointer (some ⟨ob,0,none⟩))/\w'.cell? ⟨wb,0,none⟩=some cv/\w'.cell? ⟨wb,1,none⟩=some hv/\w'.cell? ⟨wb,2,none⟩=some (.int .i64 ep)/\w'.cell? ⟨w.heap.size,0,none⟩=some (.int .i64 s.cls)/\w'.cell? ⟨w.heap.size,1,none⟩=some (.string s.name)/\w'.cell? ⟨w.heap.size,2,none⟩=some (.int .i64 s.at')/\w'.cell? ⟨ob,7,none⟩=some lv:=⟨h.p0,h.w0,h.w1,h.w2,h.s0,h.s1,h.s2,h.o7⟩
theorem CfR.later {w:World}{pb wb ob:Nat}{cv hv lv tv:Value}{ep:Int}{s:QS}{st:CSt}{w' w'':World}(h:CfR w pb wb ob cv hv lv tv ep s st w')(hb:Below w'.heap.size w' w''):CfR w pb wb ob cv hv lv tv ep s st w'':=⟨qzA hb h.p0,qzA hb h.w0,qzA hb h.w1,qzA hb h.w2,qzA hb h.s0,qzA hb h.s1,qzA hb h.s2,qzA hb h.o7,qzA hb h.o8⟩
theorem xok {w:World}{ob:Nat}{lv tv:Value}{st:CSt}(h:w.heap[ob]?=some (OB lv tv st))(v:Value)(l:List QE):(w.setCell ⟨ob,7,none⟩ v).heap[ob]?=some (OB v tv { st with cells:=l }):=by rw[xad h];rfl
theorem xm7 {w:World}{ob:Nat}{lv tv:Value}{st:CSt}(h:w.heap[ob]?=some (OB lv tv st))(v:Value)(l:List QT):(w.setCell ⟨ob,8,none⟩ v).heap[ob]?=some (OB lv v { st with ts:=l }):=by rw[xad h];rfl
theorem xnM {w:World}{ob:Nat}{lv tv:Value}{st:CSt}(h:w.heap[ob]?=some (OB lv tv st))(n:Int):(w.setCell ⟨ob,9,none⟩ (.int .i64 n)).heap[ob]?=some (OB lv tv { st with hits:=n }):=by rw[xad h];rfl
theorem xmx {w:World}{ob:Nat}{lv tv:Value}{st:CSt}(h:w.heap[ob]?=some (OB lv tv st))(n:Int):(w.setCell ⟨ob,10,none⟩ (.int .i64 n)).heap[ob]?=some (OB lv tv { st with nots:=n }):=by rw[xad h];rfl
theorem xgG {X:QW}{pb wb ob lo:Nat}{cv hv:Value}{T:Nat->Nat}{w:World}{st:CSt}{n:Nat}(h:LcP X pb wb ob lo cv hv T w st (n+1))(s:QS)(c:Int)(name:ByteArray):Calls Tryz.prog 45 #[SV s,.int .i64 c,.string name,.pointer (some ⟨pb,0,none⟩),.pointer (some ⟨wb,0,none⟩)] w fun e w'=>e=.returned (.tuple #[.int .i64 (xcb X st s c name).2.1,.int .i64 (xcb X st s c name).2.2])/\(∃ T',Ext T T' w/\LcP X pb wb ob lo cv hv T' w' (xcb X st s c name).1 n)/\Kp (fun t=>t=3) T w w':=by
 have hb1:Below w.heap.size w (w.alloc (.cells #[.int .i64 s.cls,.string s.name,.int .i64 s.at'] 67)).drew:=(xaj _ _).drew;have hsn:=xeS w s 67;have h1:=h.keep (T':=T) (.refl _ _) (Kp.of_below (S:=fun _=>False) hb1) id id
 have hlt:ob<w.heap.size:=by obtain⟨_,_,_,_,_,_,b,_⟩:=h.box;exact xaf b
 obtain⟨a,m,k,g,j,i,b1,b2,b3⟩:=h1.box;have hF:CfR w pb wb ob cv hv (.slice a m k) (.slice g j i) X.ez s st (w.alloc (.cells #[.int .i64 s.cls,.string s.name,.int .i64 s.at'] 67)).drew:=⟨h1.p0,h1.lk.w0,h1.lk.w1,h1.lk.w2,hsn.c0,hsn.c1,hsn.c2,by rw[qzB b1];rfl,by rw[qzB b1];rfl⟩
 have hfind:=xjY st.cells X s c name _ cv hv _ (b2.mono (Q:=Fx T _) xbw fun b hb=>hb.2) h1.lk.cls h1.lk.heap (by have:=h.few.c;omega) (fun x hx=>by have:=h.few.cl x hx;omega)
 have H:=hid h;have H1:=hid h1;have HB1:=hid hb1;have HLK:Hid ((xcb X st s c name).2=(xa2 st.cells X s c name).2.1):=rfl;obtain⟨ac,cc,hcv,-⟩:=id h1.lk.cls;obtain⟨ah,ch,hhv,-⟩:=id h1.lk.heap;subst hcv hhv;have hne:pb≠ob:=fun e=>by have h1:=h.tp;have h2:=h.to3;rw[e] at h1;omega
 have hnw:wb≠ob:=fun e=>by have h1:=h.lk.tag;have h2:=h.to3;rw[e] at h1;omega
 have hns:w.heap.size≠ob:=by omega
 have HB:=hid b1;have H3:=hid b3;clear h h1 hb1 hsn b1 b2 b3;generalize hcf:xa2 st.cells X s c name=cf at *;obtain⟨cl,⟨f1,f2⟩,kn⟩:=cf;simp only at hfind HLK;have HWZ:Hid (w.heap.size<(w.alloc (.cells #[.int .i64 s.cls,.string s.name,.int .i64 s.at'] 67)).drew.heap.size):=by show _<_;simp
 go_enter Tryz.func45,Tryz.ntmps45
 go_upto_region 1 with (fail)
 generalize (w.alloc (.cells #[.int .i64 s.cls,.string s.name,.int .i64 s.at'] 67))=W at *
 go_region_held3 (fun w'=>w'.cell? ⟨pb,0,none⟩=some (.pointer (some ⟨ob,0,none⟩))/\w'.cell? ⟨wb,0,none⟩=some (.slice ac X.cz.length cc)/\w'.cell? ⟨wb,1,none⟩=some (.slice ah X.heap.length ch)/\w'.cell? ⟨wb,2,none⟩=some (.int .i64 X.ez)/\w'.cell? ⟨w.heap.size,0,none⟩=some (.int .i64 s.cls)/\w'.cell? ⟨w.heap.size,1,none⟩=some (.string s.name)/\w'.cell? ⟨w.heap.size,2,none⟩=some (.int .i64 s.at')/\w'.cell? ⟨ob,7,none⟩=some (.slice a m k))
  (first | with_reducible exact hF.al | with_reducible exact hF2.al)
  (first | (go_at_call 46;refine hfind.mono ?_;rintro e w2 ⟨a2,k2,rfl,hc2,hb2⟩;have hF2:=hF.later hb2))
 have hB2:=xac HB.out hb2;have H2:=hid hc2;have HB2:=hid hb2;have HX2:=hid hB2;have o7f:=xam hB2;obtain⟨p0,w0,w1',w2',s0,s1,s2,o7,o8⟩:=id hF2;clear hF hfind hc2 hb2 hB2
 go_upto_region 3 with (fail)
 have HK2:Hid (Kp (fun t=>t=3) T w (w2.setCell ⟨ob,7,none⟩ (.slice a2 cl.length k2))):=((Kp.of_below HB1.out).on HB2.out).set (fun _=>H.out.to3) _ _
 have hKV:Kp (fun t=>t=3) T W.drew (w2.setCell ⟨ob,7,none⟩ (.slice a2 cl.length k2)):=(Kp.of_below HB2.out).set (fun _=>H.out.to3) _ _
 have hT3:=H3.out.fxl xbZ (.refl T W.drew) hKV (by omega)
 have hBV:=xok HX2.out (.slice a2 cl.length k2) cl;have HC2:Hid (xbk (fun b=>W.drew.heap.size<=b) (w2.setCell ⟨ob,7,none⟩ (.slice a2 cl.length k2)) (.slice a2 cl.length k2) cl):=H2.out.keep xbw (xaq (Keeps.refl _ _) (by have:=HB1.out.size;omega) _) fun _ h=>h
 have y0:=(qzI w2 ⟨ob,7,none⟩ ⟨pb,0,none⟩ (.slice a2 cl.length k2) (by simpa using hne.symm)).trans p0
 have y1:=(qzI w2 ⟨ob,7,none⟩ ⟨w.heap.size,0,none⟩ (.slice a2 cl.length k2) (by simpa using hns.symm)).trans s0
 have y2:=(qzI w2 ⟨ob,7,none⟩ ⟨w.heap.size,1,none⟩ (.slice a2 cl.length k2) (by simpa using hns.symm)).trans s1
 have y3:=(qzI w2 ⟨ob,7,none⟩ ⟨w.heap.size,2,none⟩ (.slice a2 cl.length k2) (by simpa using hns.symm)).trans s2
 clear p0 w0 w1' w2' s0 s1 s2 o7 o8 o7f hF2;generalize (w2.setCell ⟨ob,7,none⟩ (.slice a2 cl.length k2))=V at *;have y8:V.cell? ⟨ob,8,none⟩=some (.slice g j i):=by rw[qzB hBV];rfl
 have hadd:=fun w' (hb:Below V.heap.size V w')=>xnC st.ts _ s c w' (hT3.later xbZ hb) (by have:=H.out.few.t;omega) (fun x hx=>by have:=H.out.few.tl x hx;omega)
 have HBV:=hid hBV;have yf:=xam hBV;have HKV:=hid hKV;have HVZ:=hid hKV.size;clear hBV hKV;have hS0:V.drew.cell? ⟨pb,0,none⟩=some (.pointer (some ⟨ob,0,none⟩))/\V.drew.cell? ⟨w.heap.size,0,none⟩=some (.int .i64 s.cls)/\V.drew.cell? ⟨w.heap.size,1,none⟩=some (.string s.name)/\V.drew.cell? ⟨w.heap.size,2,none⟩=some (.int .i64 s.at')/\V.drew.cell? ⟨ob,8,none⟩=some (.slice g j i):=⟨y0,y1,y2,y3,y8⟩;refine xaY (S:=fun w'=>w'.cell? ⟨pb,0,none⟩=some (.pointer (some ⟨ob,0,none⟩))/\w'.cell? ⟨w.heap.size,0,none⟩=some (.int .i64 s.cls)/\w'.cell? ⟨w.heap.size,1,none⟩=some (.string s.name)/\w'.cell? ⟨w.heap.size,2,none⟩=some (.int .i64 s.at')/\w'.cell? ⟨ob,8,none⟩=some (.slice g j i)) [10] (by kernel_rfl) ?_
 refine tk 0 _ (.pointer (some ⟨ob,0,none⟩)) rfl (hS0) (fun _ _ _ h=>h) rfl (by kernel_rfl) ?_ ?_
 ·rintro w⟨q0,q1,q2,q3,q4⟩;go_simp
 try simp only[Act.put,qzF,qzG,qzH]
 refine tk 1 _ (.pointer (some ⟨ob,0,none⟩)) rfl (hS0) (fun _ _ _ h=>h) rfl (by kernel_rfl) ?_ ?_
 ·rintro w⟨q0,q1,q2,q3,q4⟩;go_simp
 try simp only[Act.put,qzF,qzG,qzH]
 refine tk 2 _ (.pointer (some ⟨ob,0,none⟩)) rfl (hS0) (fun _ _ _ h=>h) rfl (by kernel_rfl) ?_ ?_
 ·rintro w⟨q0,q1,q2,q3,q4⟩;go_simp
 try simp only[Act.put,qzF,qzG,qzH]
 refine tk 3 _ (.pointer (some ⟨ob,8,none⟩)) rfl (hS0) (fun _ _ _ h=>h) rfl (by kernel_rfl) ?_ ?_
 ·rintro w⟨q0,q1,q2,q3,q4⟩;go_simp
 try simp only[Act.put,qzF,qzG,qzH]
 refine tk 4 _ (.slice g j i) rfl (hS0) (fun _ _ _ h=>h) rfl (by kernel_rfl) ?_ ?_
 ·rintro w⟨q0,q1,q2,q3,q4⟩;go_simp
 try simp only[Act.put,qzF,qzG,qzH]
 refine tk 5 _ (SV s) rfl (hS0) (fun _ _ _ h=>h) rfl (by kernel_rfl) ?_ ?_
 ·rintro w⟨q0,q1,q2,q3,q4⟩;go_simp
 try simp only[Act.put,qzF,qzG,qzH]
 refine tk 6 _ (.int .i64 c) rfl (hS0) (fun _ _ _ h=>h) rfl (by kernel_rfl) ?_ ?_
 ·rintro w⟨q0,q1,q2,q3,q4⟩;go_simp
 try simp only[Act.put,qzF,qzG,qzH]
 refine xag (rs:=[7]) (by kernel_rfl) (by simp) ?_
 intro i hi;simp only[List.mem_cons,List.not_mem_nil,or_false] at hi;subst hi;refine xa6 (o:=_) rfl (fun K' hK=>?_)
 go_simp
 go_at_call 47
 refine (hadd _ (qzL _ V).drew).mono ?_;rintro e w3 ⟨g3,c3,rfl,hc3,hb3⟩;have hB3:=xac (show V.drew.heap[ob]?=_ from HBV.out) hb3
 have hS1:=And.intro (qzA hb3 hS0.1) (And.intro (qzA hb3 hS0.2.1) (And.intro (qzA hb3 hS0.2.2.1) (And.intro (qzA hb3 hS0.2.2.2.1) (qzA hb3 hS0.2.2.2.2))));dsimp only;refine hK _ _ (fun _=>?_) ?_
 ·exact hS1
 clear hK K'
 try simp only[Act.put,qzF,qzG,qzH]
 refine tk 8 _ (.pointer (some ⟨ob,0,none⟩)) rfl (hS1) (fun _ _ _ h=>h) rfl (by kernel_rfl) ?_ ?_
 ·rintro w⟨q0,q1,q2,q3,q4⟩;go_simp
 try simp only[Act.put,qzF,qzG,qzH]
 refine tk 9 _ (.pointer (some ⟨ob,8,none⟩)) rfl (hS1) (fun _ _ _ h=>h) rfl (by kernel_rfl) ?_ ?_
 ·rintro w⟨q0,q1,q2,q3,q4⟩;go_simp
 try simp only[Act.put,qzF,qzG,qzH]
 refine xag (rs:=[10]) (by kernel_rfl) (by simp) ?_
 intro i hi;simp only[List.mem_cons,List.not_mem_nil,or_false] at hi;subst hi;refine xa6 (o:=_) rfl (fun K' hK=>?_)
 have z8:=hS1.2.2.2.2;have zf:=xam hB3;go_simp;refine hK _ _ (fun h=>absurd h (by decide)) ?_
 clear hK K'
 try simp only[Act.put,qzF,qzG,qzH]
 refine xa0 (by kernel_rfl) ?_ _
 try simp only[Act.put,qzF,qzG,qzH]
 have hE1:Ext T (xau T W.drew 0) W.drew:=xao T W.drew 0;have hE0:Hid (Ext T (xau T W.drew 0) w):=fun b hb=>xao T W.drew 0 b (qzE hb HB1.out.size)
 have z0:=hS1.1;clear hS0 hS1 y0 y1 y2 y3 y8 yf hadd;have hB4:=xm7 hB3 (.slice (some ⟨g3,0,none⟩) (xc1 st.ts s c).length c3) (xc1 st.ts s c);have hlo:=HWZ.out;have hVz:=HVZ.out;have HC3:Hid (xbk (fun b=>W.drew.heap.size<=b) (w3.setCell ⟨ob,8,none⟩ (.slice (some ⟨g3,0,none⟩) (xc1 st.ts s c).length c3)) (.slice a2 cl.length k2) cl):=(HC2.out.later xbw ((qzL _ V).drew.trans hb3)).keep xbw (xaq (Keeps.refl _ _) (by omega) _) fun _ h=>h
 have HT3:Hid (xbc (fun b=>W.drew.heap.size<=b) (w3.setCell ⟨ob,8,none⟩ (.slice (some ⟨g3,0,none⟩) (xc1 st.ts s c).length c3)) (.slice (some ⟨g3,0,none⟩) (xc1 st.ts s c).length c3) (xc1 st.ts s c)):=hc3.keep xbZ (xaq (Keeps.refl _ _) (by show ¬ V.heap.size<=ob;omega) _) fun _ h=>qzD hVz h
 have HK3:Hid (Kp (fun t=>t=3) T w (w3.setCell ⟨ob,8,none⟩ (.slice (some ⟨g3,0,none⟩) (xc1 st.ts s c).length c3))):=(HK2.out.on ((qzL _ V).drew.trans hb3)).set (fun _=>H.out.to3) _ _
 have HKW:Hid (Kp (fun t=>t=3) T W.drew (w3.setCell ⟨ob,8,none⟩ (.slice (some ⟨g3,0,none⟩) (xc1 st.ts s c).length c3))):=(HKV.out.on ((qzL _ V).drew.trans hb3)).set (fun _=>H.out.to3) _ _
 have u0:=(qzI w3 ⟨ob,8,none⟩ ⟨pb,0,none⟩ (.slice (some ⟨g3,0,none⟩) (xc1 st.ts s c).length c3) (by simpa using hne.symm)).trans z0
 clear z0 hc3 hb3 hB3;generalize (w3.setCell ⟨ob,8,none⟩ (.slice (some ⟨g3,0,none⟩) (xc1 st.ts s c).length c3))=U at *;have hfh:=H.out.few.h;have hfk:=H.out.few.k;have u9:U.cell? ⟨ob,9,none⟩=some (.int .i64 st.hits):=by rw[qzB hB4];rfl
 have u10:U.cell? ⟨ob,10,none⟩=some (.int .i64 st.nots):=by rw[qzB hB4];rfl
 have uf:=xam hB4;have hw9:IntKind.i64.wrap (st.hits+1)=st.hits+1:=xaE (by omega) (by omega)
 have hw10:IntKind.i64.wrap (st.nots+1)=st.nots+1:=xaE (by omega) (by omega)
 have HB4:=hid hB4;have HFW:=hid (H.out.few.look X s c name);have HST:Hid ((xcb X st s c name).1=⟨cl,xc1 st.ts s c,if kn then st.hits+1 else st.hits,if kn then st.nots else st.nots+1⟩):=by show _=_;unfold xcb;rw[hcf]
 have HFin:Hid (∀ (o:Nat) (v:Value) (st':CSt),st'.cells=cl->st'.ts=xc1 st.ts s c->CFew st' n->(U.setCell ⟨ob,o,none⟩ v).heap[ob]?=some (OB (.slice a2 cl.length k2) (.slice (some ⟨g3,0,none⟩) (xc1 st.ts s c).length c3) st')->(∃ T',Ext T T' w/\LcP X pb wb ob lo (.slice ac X.cz.length cc) (.slice ah X.heap.length ch) T' (U.setCell ⟨ob,o,none⟩ v) st' n)/\Kp (fun t=>t=3) T w (U.setCell ⟨ob,o,none⟩ v)):=fun o v st' e1 e2 hf hB=>by
  have kU:Kp (fun t=>t=3) T W.drew (U.setCell ⟨ob,o,none⟩ v):=HKW.out.set (fun _=>H.out.to3) _ _
  have hz:(U.setCell ⟨ob,o,none⟩ v).heap.size=U.heap.size:=by simp
  refine⟨⟨xau T W.drew 0,hE0.out,⟨by rw[hE0.out _ H.out.lp];exact H.out.tp,qzE H1.out.lp kU.size,(qzI U ⟨ob,o,none⟩ ⟨pb,0,none⟩ v (by simpa using hne.symm)).trans u0,H1.out.lk.keep hE1 kU (by omega),by rw[hE0.out _ hlt];exact H.out.to3,qzD H1.out.ll kU.size,⟨_,_,_,_,_,_,hB,?_,?_⟩,hf⟩⟩,HK3.out.set (fun _=>H.out.to3) _ _⟩
  ·rw[e1]
   exact (xgD (HC3.out.keep xbw (xaq (Keeps.refl _ _) (by omega) _) fun _ h=>h)).mono xbw fun b hb=>⟨qzD H1.out.ll hb.1,hb.2,xav hb.1⟩
  ·rw[e2]
   exact (xfC (HT3.out.keep xbZ (xaq (Keeps.refl _ _) (by omega) _) fun _ h=>h)).mono xbZ fun b hb=>⟨qzD H1.out.ll hb.1,hb.2,xav hb.1⟩
 clear hB4 hcf hfh hfk hlo hVz hE1
 cases kn with
 | true=>
  have Q:=hid (HFin.out 9 (.int .i64 (st.hits+1)) ⟨cl,xc1 st.ts s c,st.hits+1,st.nots⟩ rfl rfl (by have:=HFW.out;rw[HST.out] at this;exact this) (xnM HB4.out _))
  clear HFin;go_wp2;refine qzK (v:=.tuple #[.int .i64 f1,.int .i64 f2]) (by simp[results,Tryz.results45,go_sem]) rfl ⟨by rw[HLK.out],?_⟩
  rw[HST.out]
  exact Q.out
 | false=>
  have Q:=hid (HFin.out 10 (.int .i64 (st.nots+1)) ⟨cl,xc1 st.ts s c,st.hits,st.nots+1⟩ rfl rfl (by have:=HFW.out;rw[HST.out] at this;exact this) (xmx HB4.out _))
  clear HFin;go_wp2;refine qzK (v:=.tuple #[.int .i64 f1,.int .i64 f2]) (by simp[results,Tryz.results45,go_sem]) rfl ⟨by rw[HLK.out],?_⟩
  rw[HST.out]
  exact Q.out
theorem xkG {fn:Nat}{f:Func}(hf:Tryz.prog.funcs[fn]?=some f)(hn:(f.name == "runtime.NumGoroutine")=false)(hb:f.body.isSome=true)(args:Array Value)(w:World):(callFunc fn args).run Tryz.prog w=.ok (.enter fn args) w:=by
 have h1:¬ f.name = "runtime.NumGoroutine" := by simpa using hn
 have h2:¬ f.body=none:=by intro h;rw[h] at hb;cases hb
 simp[callFunc,hf,h1,h2]
theorem xhe {X:QW}(h:xaJ X=0){c n:Int}{m:QM}(hm:xaO X.cz c n=some m):m.code.length<=60:=by
 obtain⟨hs,-,hk,-⟩:=xbE h;obtain⟨kc,kn,x,rfl,rfl,hx,hxm⟩:=xej hm;have h1:=hk kc x (xae hx) hx;unfold rkE at h1
 split at h1
 ·cases h1
 ·split at h1
  ·cases h1
  ·have h2:=xbH h1 kn m hxm;unfold rmE at h2
   split at h2
   ·cases h2
   ·split at h2
    ·rename_i hp
     have:m.code.length=0:=by
      unfold xgz at hp;rw[List.any_eq_true] at hp;obtain⟨p,-,hp⟩:=hp
      simp at hp
      simp[hp]
     omega
    ·unfold xdY at h2
     split at h2
     ·rename_i hw;exact absurd h2 hw
     ·rename_i hw;have:=xiV (by simpa using hw)
      omega
theorem xjn {σ:Type}{p:Mp σ}(hq:∀ c k,p.E.quick c k=none)(T:Nat->Nat)(w:World)(st:σ)(c k:Int)(mt:QM)(n:Nat):Calls Tryz.prog 24 (#[.int .i64 c,.int .i64 k]++#[]) w fun e w'=>(∃ fc fn fe ft av nv cv,e=.returned (.tuple #[FaV fc fn fe ft (.slice av nv cv),.bool (p.E.quick c k).isSome])/\∀ q,p.E.quick c k=some q->ft=q.2/\xa5 (Fx T w') w' (.slice av nv cv) q.1)/\Below w.heap.size w w':=by
 refine (xmv c k w).mono ?_;rintro e w' ⟨rfl,hb⟩;refine⟨⟨0,⟨#[]⟩,0,0,none,0,0,by rw[hq];rfl,fun q h=>?_⟩,hb⟩
 rw[hq] at h;cases h
theorem xjr (X:QW)(pb wb ob lo:Nat)(cv hv:Value):Lok (LcP X pb wb ob lo cv hv):=⟨fun h e k h0 h3=>h.keep e k h0 h3,fun h hn=>h.mono hn⟩
theorem xlh {X:QW}(hX:xaJ X=0){fuel:Int}(hf:fuel<=400)(pb wb ob lo:Nat)(cv hv cv':Value):Cx (⟨xaL X fuel,cv',X.ez,.func (.func 45) #[] #[.pointer (some ⟨pb,0,none⟩),.pointer (some ⟨wb,0,none⟩)],.func (.func 24) #[] #[]⟩:Mp CSt) (LcP X pb wb ob lo cv hv) 45 #[.pointer (some ⟨pb,0,none⟩),.pointer (some ⟨wb,0,none⟩)] 24 #[] where
 lv:=rfl
 qv:=rfl
 lcf:=xkG Tryz.func45 (by kernel_rfl) (by kernel_rfl)
 qcf:=xkG Tryz.func24 (by kernel_rfl) (by kernel_rfl)
 ok:=xeM hX fuel _
 fuel:=by show fuel<=_;omega
 keep h e k h0 h3:=h.keep e k h0 h3
 mono h hn:=h.mono hn
 look T w st s c name n h:=xgG h s c name
 quick T w st c k mt n _ _:=xjn (fun _ _=>rfl) T w st c k mt n
 few c k mt hm:=⟨by have:=xhe hX hm;omega,fun q h=>by cases h⟩
theorem xhX (ac:Option Addr)(nc cc:Nat)(ah:Option Addr)(nh ch:Nat)(ep:Int)(ob:Nat)(w:World):Calls Tryz.prog 23 #[WV (.slice ac nc cc) (.slice ah nh ch) ep,.pointer (some ⟨ob,0,none⟩)] w fun e w'=>e=.returned (.func (.func 45) #[] #[.pointer (some ⟨w.heap.size+1,0,none⟩),.pointer (some ⟨w.heap.size,0,none⟩)])/\w'.cell? ⟨w.heap.size,0,none⟩=some (.slice ac nc cc)/\w'.cell? ⟨w.heap.size,1,none⟩=some (.slice ah nh ch)/\w'.cell? ⟨w.heap.size,2,none⟩=some (.int .i64 ep)/\w'.cell? ⟨w.heap.size+1,0,none⟩=some (.pointer (some ⟨ob,0,none⟩))/\w.heap.size+2<=w'.heap.size/\Below w.heap.size w w':=by
 go_enter Tryz.func23,Tryz.ntmps23;go_wp2
 go_ret
 exact⟨rfl,qzA (xaj _ _) (xaa w #[.slice ac nc cc,.slice ah nh ch,.int .i64 ep] 25 _ rfl 0),qzA (xaj _ _) (xaa w #[.slice ac nc cc,.slice ah nh ch,.int .i64 ep] 25 _ rfl 1),qzA (xaj _ _) (xaa w #[.slice ac nc cc,.slice ah nh ch,.int .i64 ep] 25 _ rfl 2),xaa _ _ _ _ (by simp) 0,by simp,xca _ _ _⟩
def xjB (ob:Nat):Nat->Nat:=fun b=>if b=ob then 3 else 0
theorem xhi (ob:Nat):xjB ob ob=3:=by simp[xjB]
theorem xb0 {ob b:Nat}(h:b≠ob):xjB ob b=0:=by simp[xjB,h]
theorem xm9 (ob b:Nat):xjB ob b=0\/xjB ob b=3:=by unfold xjB;split<;>simp
abbrev CaV (cv hv:Value)(ep:Int)(r:Ran)(lv tv:Value)(h k:Int):Value:=.agg #[cv,hv,.int .i64 ep,.int .i64 r.v.k,.int .i64 r.v.n,.int .i64 r.err,.int .i64 r.sz_,lv,tv,.int .i64 h,.int .i64 k]
def xmB (w:World)(X:QW)(r:Ran × CSt)(e:Ending)(w':World):Prop:=
 Below w.heap.size w w'/\∃ cv hv lv tv,e=.returned (CaV cv hv X.ez r.1 lv tv r.2.hits r.2.nots)/\xai (fun b=>w.heap.size<=b) w' cv X.cz/\xaC (fun b=>w.heap.size<=b) w' hv r.1.heap/\xbk (fun b=>w.heap.size<=b) w' lv r.2.cells/\xbc (fun b=>w.heap.size<=b) w' tv r.2.ts
structure CrR (w:World)(cv hv:Value)(ep:Int)(s:QV)(name:ByteArray)(av:Value)(w':World):Prop where
 w0:w'.cell? ⟨w.heap.size,0,none⟩=some cv
 w1:w'.cell? ⟨w.heap.size,1,none⟩=some hv
 w2:w'.cell? ⟨w.heap.size,2,none⟩=some (.int .i64 ep)
 c0:w'.cell? ⟨w.heap.size+1,0,none⟩=some (.int .i64 s.k)
 c1:w'.cell? ⟨w.heap.size+1,1,none⟩=some (.int .i64 s.n)
 c2:w'.cell? ⟨w.heap.size+1,2,none⟩=some (.string name)
 c3:w'.cell? ⟨w.heap.size+1,3,none⟩=some av
theorem CrR.al {w:World}{cv hv:Value}{ep:Int}{s:QV}{name:ByteArray}{av:Value}{w':World}(h:CrR w cv hv ep s name av w'):w'.cell? ⟨w.heap.size,0,none⟩=some cv/\w'.cell? ⟨w.heap.size,1,none⟩=some hv/\w'.cell? ⟨w.heap.size,2,none⟩=some (.int .i64 ep)/\w'.cell? ⟨w.heap.size+1,0,none⟩=some (.int .i64 s.k)/\w'.cell? ⟨w.heap.size+1,1,none⟩=some (.int .i64 s.n)/\w'.cell? ⟨w.heap.size+1,2,none⟩=some (.string name)/\w'.cell? ⟨w.heap.size+1,3,none⟩=some av:=⟨h.w0,h.w1,h.w2,h.c0,h.c1,h.c2,h.c3⟩
theorem CrR.kp {w:World}{cv hv:Value}{ep:Int}{s:QV}{name:ByteArray}{av:Value}{w' w'':World}{S:Nat->Prop}{T:Nat->Nat}(h:CrR w cv hv ep s name av w')(k:Kp S T w' w'')(h0:¬ S (T w.heap.size))(h1:¬ S (T (w.heap.size+1))):CrR w cv hv ep s name av w'':=⟨k.cell h.w0 h0,k.cell h.w1 h0,k.cell h.w2 h0,k.cell h.c0 h1,k.cell h.c1 h1,k.cell h.c2 h1,k.cell h.c3 h1⟩
theorem CrR.set {w:World}{cv hv:Value}{ep:Int}{s:QV}{name:ByteArray}{av:Value}{w':World}(h:CrR w cv hv ep s name av w'){b:Nat}(hb:w.heap.size+2<=b)(o:Nat)(u:Value):CrR w cv hv ep s name av (w'.setCell ⟨b,o,none⟩ u):=
 ⟨(qzI _ _ _ _ (by simp;omega)).trans h.w0,(qzI _ _ _ _ (by simp;omega)).trans h.w1,(qzI _ _ _ _ (by simp;omega)).trans h.w2,(qzI _ _ _ _ (by simp;omega)).trans h.c0,(qzI _ _ _ _ (by simp;omega)).trans h.c1,(qzI _ _ _ _ (by simp;omega)).trans h.c2,(qzI _ _ _ _ (by simp;omega)).trans h.c3⟩
theorem xj6 {w:World}{ob:Nat}{lv tv:Value}{st:CSt}(h:w.heap[ob]?=some (OB lv tv st)):w.cell? ⟨ob,0,none⟩=some (.slice none 0 0)/\w.cell? ⟨ob,1,none⟩=some (.slice none 0 0)/\w.cell? ⟨ob,2,none⟩=some (.int .i64 0)/\w.cell? ⟨ob,3,none⟩=some (.int .i64 0)/\w.cell? ⟨ob,4,none⟩=some (.int .i64 0)/\w.cell? ⟨ob,5,none⟩=some (.int .i64 0)/\w.cell? ⟨ob,6,none⟩=some (.int .i64 0)/\w.cell? ⟨ob,7,none⟩=some lv/\w.cell? ⟨ob,8,none⟩=some tv/\w.cell? ⟨ob,9,none⟩=some (.int .i64 st.hits)/\w.cell? ⟨ob,10,none⟩=some (.int .i64 st.nots):=by
 refine⟨?_,?_,?_,?_,?_,?_,?_,?_,?_,?_,?_⟩<;>(rw[qzB h];rfl)
abbrev OB2 (cv hv:Value)(ep:Int)(r:Ran)(lv tv:Value)(st:CSt):Obj:=.cells #[cv,hv,.int .i64 ep,.int .i64 r.v.k,.int .i64 r.v.n,.int .i64 r.err,.int .i64 r.sz_,lv,tv,.int .i64 st.hits,.int .i64 st.nots] 39 (0,0)
structure CaR (ob:Nat)(cv hv:Value)(ep:Int)(r:Ran)(lv tv:Value)(st:CSt)(w U:World):Prop where
 box:U.heap[ob]?=some (OB2 cv hv ep r lv tv st)
 kp:∀ (T:Nat->Nat),T ob=3->Kp (fun t=>t=3) T w U
theorem caA {w:World}{ob:Nat}{lv tv:Value}{st:CSt}(h:w.heap[ob]?=some (OB lv tv st))(cv hv:Value)(ep:Int)(r:Ran):CaR ob cv hv ep r lv tv st w (((((((w.setCell ⟨ob,0,none⟩ cv).setCell ⟨ob,1,none⟩ hv).setCell ⟨ob,2,none⟩ (.int .i64 ep)).setCell ⟨ob,3,none⟩ (.int .i64 r.v.k)).setCell ⟨ob,4,none⟩ (.int .i64 r.v.n)).setCell ⟨ob,5,none⟩ (.int .i64 r.err)).setCell ⟨ob,6,none⟩ (.int .i64 r.sz_)):=
 ⟨by rw[xad (xad (xad (xad (xad (xad (xad h _) _) _) _) _) _) _];rfl,fun T ht=>(((((((Kp.refl _ _ _).set (fun _=>ht) _ _).set (fun _=>ht) _ _).set (fun _=>ht) _ _).set (fun _=>ht) _ _).set (fun _=>ht) _ _).set (fun _=>ht) _ _).set (fun _=>ht) _ _⟩
theorem xoL {w:World}{ob:Nat}{cv hv:Value}{ep:Int}{r:Ran}{lv tv:Value}{st:CSt}(h:w.heap[ob]?=some (OB2 cv hv ep r lv tv st)):w.cell? ⟨ob,0,none⟩=some cv/\w.cell? ⟨ob,1,none⟩=some hv/\w.cell? ⟨ob,2,none⟩=some (.int .i64 ep)/\w.cell? ⟨ob,3,none⟩=some (.int .i64 r.v.k)/\w.cell? ⟨ob,4,none⟩=some (.int .i64 r.v.n)/\w.cell? ⟨ob,5,none⟩=some (.int .i64 r.err)/\w.cell? ⟨ob,6,none⟩=some (.int .i64 r.sz_)/\w.cell? ⟨ob,7,none⟩=some lv/\w.cell? ⟨ob,8,none⟩=some tv/\w.cell? ⟨ob,9,none⟩=some (.int .i64 st.hits)/\w.cell? ⟨ob,10,none⟩=some (.int .i64 st.nots):=by
 refine⟨?_,?_,?_,?_,?_,?_,?_,?_,?_,?_,?_⟩<;>(rw[qzB h];rfl)
theorem xfH {P Q R S:Nat->Prop}(X:QW)(hX:xaJ X=0)(s:QV)(name:ByteArray)(args:List QV)(fuel:Int)(l:List QE)(ts:List QT)(cv hv av lv tv:Value)(w:World)(hC:xai P w cv X.cz)(hH:xaC P w hv X.heap)(hA:xaB Q w av args)(hl:xbk R w lv l)(ht:xbc S w tv ts)(hn:name.size<=140737488351232)(hf:CFew ⟨l,ts,0,0⟩ 400) :
  Calls Tryz.prog 7 #[WV cv hv X.ez,ClV s name av,.int .i64 fuel,lv,tv] w fun e w'=>xmB w X (xdh (xaL X fuel) X ⟨l,ts,0,0⟩ s name args fuel) e w':=by
 obtain⟨ac,cc,rfl,-,-,hby,-⟩:=id hC;obtain⟨ah,ch,rfl,-,-,hbyh,-⟩:=id hH;obtain⟨aa,ca,rfl,-⟩:=id hA;obtain⟨al,kl,rfl,-⟩:=id hl;obtain⟨at',kt,rfl,-⟩:=id ht;have hbW:Below w.heap.size w (((w.alloc (.cells #[.slice ac X.cz.length cc,.slice ah X.heap.length ch,.int .i64 X.ez] 25)).alloc (.cells #[.int .i64 s.k,.int .i64 s.n,.string name,.slice aa args.length ca] 30)).alloc (.cells #[.slice none 0 0,.slice none 0 0,.int .i64 0,.int .i64 0,.int .i64 0,.int .i64 0,.int .i64 0,.slice none 0 0,.slice none 0 0,.int .i64 0,.int .i64 0] 39)):=xah (xca _ _ _) (xaj _ _)
 have hR0:CrR w (.slice ac X.cz.length cc) (.slice ah X.heap.length ch) X.ez s name (.slice aa args.length ca) (((w.alloc (.cells #[.slice ac X.cz.length cc,.slice ah X.heap.length ch,.int .i64 X.ez] 25)).alloc (.cells #[.int .i64 s.k,.int .i64 s.n,.string name,.slice aa args.length ca] 30)).alloc (.cells #[.slice none 0 0,.slice none 0 0,.int .i64 0,.int .i64 0,.int .i64 0,.int .i64 0,.int .i64 0,.slice none 0 0,.slice none 0 0,.int .i64 0,.int .i64 0] 39)):=by
  obtain⟨-,w0,w1,w2,c0,c1,c2,c3⟩:=xgc w (.slice ac X.cz.length cc) (.slice ah X.heap.length ch) X.ez s name (.slice aa args.length ca)
  exact⟨qzA (xaj _ _) w0,qzA (xaj _ _) w1,qzA (xaj _ _) w2,qzA (xaj _ _) c0,qzA (xaj _ _) c1,qzA (xaj _ _) c2,qzA (xaj _ _) c3⟩
 have hz:(((w.alloc (.cells #[.slice ac X.cz.length cc,.slice ah X.heap.length ch,.int .i64 X.ez] 25)).alloc (.cells #[.int .i64 s.k,.int .i64 s.n,.string name,.slice aa args.length ca] 30)).alloc (.cells #[.slice none 0 0,.slice none 0 0,.int .i64 0,.int .i64 0,.int .i64 0,.int .i64 0,.int .i64 0,.slice none 0 0,.slice none 0 0,.int .i64 0,.int .i64 0] 39)).heap.size=w.heap.size+3:=by simp
 have hr0:(((w.alloc (.cells #[.slice ac X.cz.length cc,.slice ah X.heap.length ch,.int .i64 X.ez] 25)).alloc (.cells #[.int .i64 s.k,.int .i64 s.n,.string name,.slice aa args.length ca] 30)).alloc (.cells #[.slice none 0 0,.slice none 0 0,.int .i64 0,.int .i64 0,.int .i64 0,.int .i64 0,.int .i64 0,.slice none 0 0,.slice none 0 0,.int .i64 0,.int .i64 0] 39)).heap[w.heap.size+2]?=some (.cells #[.slice none 0 0,.slice none 0 0,.int .i64 0,.int .i64 0,.int .i64 0,.int .i64 0,.int .i64 0,.slice none 0 0,.slice none 0 0,.int .i64 0,.int .i64 0] 39 (0,0)):=xba _ _ _ (by simp)
 go_enter Tryz.func7,Tryz.ntmps7
 go_upto_region 1 with (fail)
 generalize (((w.alloc (.cells #[.slice ac X.cz.length cc,.slice ah X.heap.length ch,.int .i64 X.ez] 25)).alloc (.cells #[.int .i64 s.k,.int .i64 s.n,.string name,.slice aa args.length ca] 30)).alloc (.cells #[.slice none 0 0,.slice none 0 0,.int .i64 0,.int .i64 0,.int .i64 0,.int .i64 0,.int .i64 0,.slice none 0 0,.slice none 0 0,.int .i64 0,.int .i64 0] 39))=W at *;go_wp2_with fail;refine (xdi l _ W (hl.later xbw hbW) (by have:=hf.c;simp only at this;omega) (fun x hx=>by have:=hf.cl x hx;omega)).mono ?_
 rintro e w1 ⟨g1,rfl,ho1,hg1,hb1⟩;go_wp2_with fail;refine (xgF ts _ w1 ((ht.later xbZ hbW).later xbZ hb1) (by have:=hf.t;simp only at this;omega) (fun x hx=>by have:=hf.tl x hx;omega)).mono ?_
 rintro e w2 ⟨g2,gs2,rfl,ho2,hg2,hb2⟩;have hL1:=xcs (ho1.row0 xct (by unfold maxLen;have:=hf.c;simp only at this;omega))
 have hT2:=ho2.tallies (P:=fun b=>g2<=b/\b<w2.heap.size) (by unfold maxLen;have:=hf.t;simp only at this;omega) (fun x hx=>by unfold maxLen;have:=hf.tl x hx;omega) fun b h1 h2=>⟨h1,h2⟩
 have hbO:Below w2.heap.size w2 (w2.alloc (OB (.slice (some ⟨g1,0,none⟩) l.length l.length) (.slice (some ⟨g2,0,none⟩) ts.length ts.length) ⟨l,ts,0,0⟩)).drew:=(xaj _ _).drew;have hbA:Hid (Below w.heap.size w (w2.alloc (OB (.slice (some ⟨g1,0,none⟩) l.length l.length) (.slice (some ⟨g2,0,none⟩) ts.length ts.length) ⟨l,ts,0,0⟩)).drew):=xah (xah (xah hbW hb1) hb2) hbO;have hbB:Below W.heap.size W (w2.alloc (OB (.slice (some ⟨g1,0,none⟩) l.length l.length) (.slice (some ⟨g2,0,none⟩) ts.length ts.length) ⟨l,ts,0,0⟩)).drew:=xah (xah hb1 hb2) hbO;have hR3:=hR0.kp (T:=fun _=>0) (Kp.of_below (S:=fun _=>False) hbB) id id
 have hr3:=xac hr0 hbB;have hL3:=(hL1.later xbw hb2).later xbw hbO;have hT3:=hT2.later xbZ hbO;have hO3:(w2.alloc (OB (.slice (some ⟨g1,0,none⟩) l.length l.length) (.slice (some ⟨g2,0,none⟩) ts.length ts.length) ⟨l,ts,0,0⟩)).drew.heap[w2.heap.size]?=_:=qzJ w2 _;have hz1:=hb1.size;have hz2:=hb2.size;have hz3:w2.heap.size<(w2.alloc (OB (.slice (some ⟨g1,0,none⟩) l.length l.length) (.slice (some ⟨g2,0,none⟩) ts.length ts.length) ⟨l,ts,0,0⟩)).drew.heap.size:=by simp
 have HC:=hid hC;have HH:=hid hH;have HA:=hid hA;have HL3:=hid hL3;have HT3:=hid hT3;have HO3:=hid hO3;have HR3:=hid hr3;clear hC hH hA hl ht hL1 hT2 ho1 ho2 hR0 hr0 hb1 hb2 hbO hbB hbW hL3 hT3 hO3 hr3
 go_upto_region 2 with (fail)
 generalize (w2.alloc (OB (.slice (some ⟨g1,0,none⟩) l.length l.length) (.slice (some ⟨g2,0,none⟩) ts.length ts.length) ⟨l,ts,0,0⟩))=V at *;generalize w2.heap.size=ob at *;have hfd:=xhX ac X.cz.length cc ah X.heap.length ch X.ez ob V.drew
 have hwi:∀ w3:World,Below V.drew.heap.size V.drew w3->V.drew.heap.size+2<=w3.heap.size->w3.cell? ⟨V.drew.heap.size,0,none⟩=some (.slice ac X.cz.length cc)->w3.cell? ⟨V.drew.heap.size,1,none⟩=some (.slice ah X.heap.length ch)->w3.cell? ⟨V.drew.heap.size,2,none⟩=some (.int .i64 X.ez)->w3.cell? ⟨V.drew.heap.size+1,0,none⟩=some (.pointer (some ⟨ob,0,none⟩))->Calls Tryz.prog 22 #[WV (.slice ac X.cz.length cc) (.slice ah X.heap.length ch) X.ez,ClV s name (.slice aa args.length ca),.int .i64 fuel,.func (.func 45) #[] #[.pointer (some ⟨V.drew.heap.size+1,0,none⟩),.pointer (some ⟨V.drew.heap.size,0,none⟩)],.func (.func 24) #[] #[]] w3 fun e w'=>WiPost (LcP X (V.drew.heap.size+1) V.drew.heap.size ob (w.heap.size+3) (.slice ac X.cz.length cc) (.slice ah X.heap.length ch)) (xjB ob) w3 X (xdh (xaL X fuel) X ⟨l,ts,0,0⟩ s name args fuel) e w':=fun w3 hb3 hz4 f0 f1 f2 f3=>by
  have hb03:=xah hbA.out hb3;have hsz:=hb3.size;have hno:∀ b,b<w.heap.size->(xjB ob) b=0:=fun b hb=>xb0 (by omega)
  have k3:xai (Fx (xjB ob) w3) w3 (.slice ac X.cz.length cc) X.cz:=(xbF HC.out).keep xaz (Keeps.of_below hb03) fun b hb=>⟨qzE hb hb03.size,hno b hb⟩
  have k4:xaC (Fx (xjB ob) w3) w3 (.slice ah X.heap.length ch) X.heap:=(xcq HH.out).keep xaD (Keeps.of_below hb03) fun b hb=>⟨qzE hb hb03.size,hno b hb⟩
  refine xme (T0:=xjB ob) X hX (xaL X fuel) ⟨l,ts,0,0⟩ rfl s name args _ _ _ w3 (fun b _=>xm9 ob b) k3 k4 ((xer HA.out).keep xaK (Keeps.of_below hb03) fun b hb=>⟨qzE hb hb03.size,hno b hb⟩) hn (xjr _ _ _ _ _ _ _) ⟨xb0 (by omega),by omega,f3,⟨xb0 (by omega),by omega,f0,f1,f2,k3,k4⟩,xhi ob,by omega,⟨_,_,_,_,_,_,xac HO3.out hb3,(HL3.out.later xbw hb3).mono xbw fun b hb=>⟨by omega,by omega,xb0 (by omega)⟩,(HT3.out.later xbZ hb3).mono xbZ fun b hb=>⟨by omega,by omega,xb0 (by omega)⟩⟩,hf.mono (Nat.min_le_right _ _)⟩ (fun _ h4 cv'=>xlh hX h4 _ _ _ _ _ _ cv')
 have HWE:=hid (rfl:xdh (xaL X fuel) X ⟨l,ts,0,0⟩ s name args fuel=xdh (xaL X fuel) X ⟨l,ts,0,0⟩ s name args fuel);obtain⟨r,hr⟩:∃ r,xdh (xaL X fuel) X ⟨l,ts,0,0⟩ s name args fuel=r:=⟨_,rfl⟩;rw[hr] at hwi;have HRR:=hid hr;clear hr HWE;have hS0:=hR3.al;have HZ:=hid hz3;simp only[Nat.add_assoc,Nat.reduceAdd] at *;have tokA:True:=trivial
 go_region_held3 (fun w'=>w'.cell? ⟨w.heap.size,0,none⟩=some (.slice ac X.cz.length cc)/\w'.cell? ⟨w.heap.size,1,none⟩=some (.slice ah X.heap.length ch)/\w'.cell? ⟨w.heap.size,2,none⟩=some (.int .i64 X.ez)/\w'.cell? ⟨w.heap.size+1,0,none⟩=some (.int .i64 s.k)/\w'.cell? ⟨w.heap.size+1,1,none⟩=some (.int .i64 s.n)/\w'.cell? ⟨w.heap.size+1,2,none⟩=some (.string name)/\w'.cell? ⟨w.heap.size+1,3,none⟩=some (.slice aa args.length ca))
  (first | with_reducible exact hS0 | with_reducible exact hR4.al | with_reducible exact hR5.al | with_reducible exact (((hR5.set hob _ _).set hob _ _).set hob _ _).al | with_reducible exact (((((((hR5.set hob _ _).set hob _ _).set hob _ _).set hob _ _).set hob _ _).set hob _ _).set hob _ _).al | with_reducible exact ((((hR5.set hob _ _).set hob _ _).set hob _ _).set hob _ _).al)
  (first
   | (have _t:=tokA;go_at_call 23;refine hfd.mono ?_;rintro e w3 ⟨rfl,f0,f1,f2,f3,fz,hb3⟩;have hR4:=hR3.kp (T:=fun _=>0) (Kp.of_below (S:=fun _=>False) hb3) id id;clear tokA;have tokB:True:=trivial)
   | (have _t:=tokB;go_at_call 22;refine (hwi _ hb3 fz f0 f1 f2 f3).mono ?_;rintro e w4 ⟨hk4,T4,hX4,hL4,cv4,hv4,rfl,hC4,hH4⟩;have hz4:=hb3.size;have hR5:=hR4.kp hk4 (by rw[xb0 (by omega)];omega) (by rw[xb0 (by omega)];omega);have hob:w.heap.size+2<=ob:=(by omega);obtain⟨a5,m5,k5,g5,j5,i5,hB5,hl5,ht5⟩:=hL4.box;have bf:=xam hB5;obtain⟨b0,b1,b2,b3,b4,b5,b6,b7,b8,b9,b10⟩:=xj6 hB5;obtain⟨a3,k3,rfl,-⟩:=id hC4;obtain⟨a4,k4,rfl,-⟩:=id hH4;have hr5:=hk4.held (xac HR3.out hb3) (by rw[xb0 (by omega)];omega);clear tokB))
 have hU:=caA hB5 (.slice a3 X.cz.length k3) (.slice a4 r.1.heap.length k4) X.ez r.1;generalize (((((((w4.setCell ⟨ob,0,none⟩ (.slice a3 X.cz.length k3)).setCell ⟨ob,1,none⟩ (.slice a4 r.1.heap.length k4)).setCell ⟨ob,2,none⟩ (.int .i64 X.ez)).setCell ⟨ob,3,none⟩ (.int .i64 r.1.v.k)).setCell ⟨ob,4,none⟩ (.int .i64 r.1.v.n)).setCell ⟨ob,5,none⟩ (.int .i64 r.1.err)).setCell ⟨ob,6,none⟩ (.int .i64 r.1.sz_))=U at *;have hkU:=hU.kp (xjB ob) (xhi ob);have hrU:=hkU.held hr5 (by rw[xb0 (by omega)];omega)
 obtain⟨d0,d1,d2,d3,d4,d5,d6,d7,d8,d9,d10⟩:=xoL hU.box;obtain⟨e0,e1,e2,e3,e4,e5,e6,e7,e8,e9,e10⟩:=xj6 (st:=⟨[],[],0,0⟩) hrU;have rf:=xam hrU;have hne:¬ w.heap.size+2=ob:=by omega
 have hne':¬ ob=w.heap.size+2:=by omega
 have HQ:Hid (∀ U',Below w.heap.size U U'->Keeps (fun b=>b≠w.heap.size+2) U U'->xmB w X r (.returned (CaV (.slice a3 X.cz.length k3) (.slice a4 r.1.heap.length k4) X.ez r.1 (.slice a5 m5 k5) (.slice g5 j5 i5) r.2.hits r.2.nots)) U'):=by
  intro U' hb' hk';have hsz:=hb3.size;have hA4:Below w.heap.size w3 w4:=hk4.below (fun b hb=>by rw[xb0 (by omega)];omega) (by omega)
  have hA5:Below w.heap.size w4 U:=hkU.below (fun b hb=>by rw[xb0 (by omega)];omega) (qzD (by omega) hk4.size)
  have hAA:Below w.heap.size w U':=((((xah hbA.out hb3).trans hA4).trans hA5).trans hb');have hkk:∀ {P:Nat->Prop},(∀ b,P b->b≠ob)->Keeps P w4 U:=fun hP=>Keeps.of_block fun b hb hl=>hkU.blk b hl (by rw[xb0 (hP b hb)];omega)
  have hlo:ob<w3.heap.size:=by omega
  have h44:T4 ob=3:=hL4.to3;have hr2:T4 (w.heap.size+2)=0:=by rw[hX4 _ (by omega)];exact xb0 (by omega)
  refine⟨hAA,_,_,_,_,rfl,(hC4.keep xaz (hkk fun b hb=>by have:=hb.1;omega) fun _ h=>h).keep xaz (hk'.mono fun b hb=>by have:=hb.1;omega) fun b hb=>by have:=hb.1;omega,(hH4.keep xaD (hkk fun b hb=>by have:=hb.1;omega) fun _ h=>h).keep xaD (hk'.mono fun b hb=>by have:=hb.1;omega) fun b hb=>by have:=hb.1;omega,?_,?_⟩
  ·exact (hl5.keep xbw (hkk fun b hb e=>by rw[e] at hb;have:=hb.2.2;rw[h44] at this;omega) fun _ h=>h).keep xbw (hk'.mono fun b hb=>by have:=hb.1;omega) fun b hb=>by have:=hb.1;omega
  ·exact (ht5.keep xbZ (hkk fun b hb e=>by rw[e] at hb;have:=hb.2.2;rw[h44] at this;omega) fun _ h=>h).keep xbZ (hk'.mono fun b hb=>by have:=hb.1;omega) fun b hb=>by have:=hb.1;omega
 clear hkU hrU hU hB5 hl5 ht5 hL4 hk4 hC4 hH4 hX4 hR3 hR4 hR5 hS0 hwi hfd f0 f1 f2 f3 b0 b1 b2 b3 b4 b5 b6 b7 b8 b9 b10 bf hr5;go_wp2;rw[HRR.out];refine qzK (v:=CaV (.slice a3 X.cz.length k3) (.slice a4 r.1.heap.length k4) X.ez r.1 (.slice a5 m5 k5) (.slice g5 j5 i5) r.2.hits r.2.nots) ?_ rfl (HQ.out _ (((((((((((qzL _ U).setCell (by simp) _).setCell (by simp) _).setCell (by simp) _).setCell (by simp) _).setCell (by simp) _).setCell (by simp) _).setCell (by simp) _).setCell (by simp) _).setCell (by simp) _).setCell (by simp) _ |>.setCell (by simp) _) (Keeps.of_block fun b hb _=>by rw[xab hb,xab hb,xab hb,xab hb,xab hb,xab hb,xab hb,xab hb,xab hb,xab hb,xab hb]))
 simp[results,Tryz.results7,go_sem,e0,e1,e2,e3,e4,e5,e6,e7,e8,e9,e10]
theorem xm2 (X:QW)(fuel:Int):ER (fun (_:Unit) (q:List Ask)=>∀ a∈q,xcW X.cz a.1 a.2.2) (xcW X.cz) (xcJ X fuel) (xcQ X fuel) where
 cz:=rfl
 fuel:=rfl
 quick:=rfl
 look:=fun _ q s c nm h hs=>⟨rfl,fun a ha=>by
  rw[show ((xcQ X fuel).look q s c nm).1=q++[(s,c,nm)] from rfl,List.mem_append,List.mem_singleton] at ha
  rcases ha with ha | rfl
  ·exact h a ha
  ·exact hs⟩
 plain:=fun c n m h k x hk h14=>xfr h hk h14
 fast:=fun c n m q h hq=>by cases hq
end Go.Proofs.YtapbeiccodnniaaGreat
