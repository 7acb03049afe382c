/- A part. -/
import Derived.Test.YtapbeiccodnniaaGreatM15
namespace Go.Proofs.YtapbeiccodnniaaGreat
open Go.ChangeShapes Go.WideShapes Go.ChangeAt Go.RowKit
set_option linter.unusedSimpArgs false
set_option linter.unusedVariables false
set_option maxHeartbeats 8000000
set_option maxRecDepth 8000
def a8R (n:Int)(st:CSt):Ran × CSt:=xdh (xaL a8Z 10) a8Z st ⟨4,0⟩ ⟨#[109]⟩ [⟨3,n⟩] 10
def a8S:CSt:=⟨[⟨⟨4,⟨#[109]⟩,2⟩,1,false,[⟨3,3⟩]⟩],[⟨⟨4,⟨#[109]⟩,2⟩,[⟨3,1⟩]⟩],0,1⟩
def a8S2:CSt:=⟨[⟨⟨4,⟨#[109]⟩,2⟩,1,false,[⟨3,3⟩]⟩],[⟨⟨4,⟨#[109]⟩,2⟩,[⟨3,2⟩]⟩],1,0⟩
theorem xnn:a8R 4 ⟨[],[],0,0⟩=(⟨[⟨4,[]⟩],⟨3,5⟩,0,2⟩,a8S):=by kernel_rfl
theorem xm1:a8R 5 ⟨a8S.cells,a8S.ts,0,0⟩=(⟨[⟨4,[]⟩],⟨3,6⟩,0,2⟩,a8S2):=by kernel_rfl
theorem xo5:CFew ⟨[],[],0,0⟩ 400:=⟨by decide,(fun x hx=>by cases hx),by decide,(fun x hx=>by cases hx),by decide,by decide⟩
theorem val8 {P:Nat->Prop}(w:World)(n:Int)(hP:P w.heap.size):xaB P (w.alloc (.cells #[.int .i64 3,.int .i64 n] 27)) (.slice (some ⟨w.heap.size,0,none⟩) 1 1) [⟨3,n⟩]:=
 xo4 xaK w [.int .i64 3,.int .i64 n] 27 [⟨3,n⟩] (fun w'=>Cells.one xaK rfl ⟨rfl,rfl⟩) hP (by show 1*16<=_;decide) (by show 1<=maxLen;decide)
theorem xhr (n:Int)(w:World):Calls Tryz.prog 32 #[.int .i64 n] w fun e w'=>∃ g,e=.returned (ClV ⟨4,0⟩ ⟨#[109]⟩ (.slice (some ⟨g,0,none⟩) 1 1))/\xaB (fun _=>True) w' (.slice (some ⟨g,0,none⟩) 1 1) [⟨3,n⟩]/\Below w.heap.size w w':=by
 have hb:Below w.heap.size w ((w.alloc (.cells #[.int .i64 4,.int .i64 0,.string ⟨#[109]⟩,.slice (some ⟨w.heap.size+1,0,none⟩) 1 1] 30)).alloc (.cells #[.int .i64 3,.int .i64 n] 27)):=xca _ _ _;have hv:=val8 (P:=fun _=>True) (w.alloc (.cells #[.int .i64 4,.int .i64 0,.string ⟨#[109]⟩,.slice (some ⟨w.heap.size+1,0,none⟩) 1 1] 30)) n trivial
 have hz:(w.alloc (.cells #[.int .i64 4,.int .i64 0,.string ⟨#[109]⟩,.slice (some ⟨w.heap.size+1,0,none⟩) 1 1] 30)).heap.size=w.heap.size+1:=by simp
 rw[hz] at hv;have c0:=qzA (xaj _ (.cells #[.int .i64 3,.int .i64 n] 27)) (xaa w #[.int .i64 4,.int .i64 0,.string ⟨#[109]⟩,.slice (some ⟨w.heap.size+1,0,none⟩) 1 1] 30 _ rfl 0);have c1:=qzA (xaj _ (.cells #[.int .i64 3,.int .i64 n] 27)) (xaa w #[.int .i64 4,.int .i64 0,.string ⟨#[109]⟩,.slice (some ⟨w.heap.size+1,0,none⟩) 1 1] 30 _ rfl 1);have c2:=qzA (xaj _ (.cells #[.int .i64 3,.int .i64 n] 27)) (xaa w #[.int .i64 4,.int .i64 0,.string ⟨#[109]⟩,.slice (some ⟨w.heap.size+1,0,none⟩) 1 1] 30 _ rfl 2);have c3:=qzA (xaj _ (.cells #[.int .i64 3,.int .i64 n] 27)) (xaa w #[.int .i64 4,.int .i64 0,.string ⟨#[109]⟩,.slice (some ⟨w.heap.size+1,0,none⟩) 1 1] 30 _ rfl 3)
 clear hz;have HV:=hid hv;have HB:=hid hb;clear hv hb;go_enter Tryz.func32,Tryz.ntmps32;go_wp2;refine bodyPost_ret (v:=ClV ⟨4,0⟩ ⟨#[109]⟩ (.slice (some ⟨w.heap.size+1,0,none⟩) 1 1)) ?_ rfl ⟨w.heap.size+1,rfl,HV.out,HB.out⟩
 simp[results,Tryz.results32,go_sem,c0,c1,c2,c3]
abbrev CB (cv hv:Value)(ep:Int)(r:Ran)(lv tv:Value)(h k:Int):Obj:=.cells #[cv,hv,.int .i64 ep,.int .i64 r.v.k,.int .i64 r.v.n,.int .i64 r.err,.int .i64 r.sz_,lv,tv,.int .i64 h,.int .i64 k] 39
theorem xgo {w:World}{ob:Nat}{cv hv:Value}{ep:Int}{r:Ran}{lv tv:Value}{h k:Int}(hb:w.heap[ob]?=some (CB cv hv ep r lv tv h k)):w.cell? ⟨ob,0,none⟩=some cv/\w.cell? ⟨ob,1,none⟩=some hv/\w.cell? ⟨ob,2,none⟩=some (.int .i64 ep)/\w.cell? ⟨ob,3,none⟩=some (.int .i64 r.v.k)/\w.cell? ⟨ob,4,none⟩=some (.int .i64 r.v.n)/\w.cell? ⟨ob,5,none⟩=some (.int .i64 r.err)/\w.cell? ⟨ob,6,none⟩=some (.int .i64 r.sz_)/\w.cell? ⟨ob,7,none⟩=some lv/\w.cell? ⟨ob,8,none⟩=some tv/\w.cell? ⟨ob,9,none⟩=some (.int .i64 h)/\w.cell? ⟨ob,10,none⟩=some (.int .i64 k):=by
 refine⟨?_,?_,?_,?_,?_,?_,?_,?_,?_,?_,?_⟩<;>(rw[qzB hb];rfl)
theorem xmy (P:Nat->Prop)(w:World):xbk P w (.slice none 0 0) []:=⟨none,0,rfl,qzC _,by decide,by decide,fun i x hx=>by simp at hx⟩
theorem xjx (P:Nat->Prop)(w:World):xbc P w (.slice none 0 0) []:=⟨none,0,rfl,qzC _,by decide,by decide,fun i x hx=>by simp at hx⟩
theorem xpb:CFew ⟨a8S.cells,a8S.ts,0,0⟩ 400:=⟨by decide,by decide,by decide,by decide,by decide,by decide⟩
theorem xoJ {P Q R S:Nat->Prop}(n:Int)(l:List QE)(ts:List QT)(r:Ran)(st:CSt)(h k:Int)(hr:xdh (xaL a8Z 10) a8Z ⟨l,ts,0,0⟩ ⟨4,0⟩ ⟨#[109]⟩ [⟨3,n⟩] 10=(r,st))(h1:r.heap.length=1)(h2:st.cells.length=1)(h3:st.ts.length=1)(h4:st.hits=h)(h5:st.nots=k)(cv hv av lv tv:Value)(w:World)(hC:xai P w cv a8Z.cz)(hH:xaC P w hv a8Z.heap)(hA:xaB Q w av [⟨3,n⟩])(hl:xbk R w lv l)(ht:xbc S w tv ts)(hf:CFew ⟨l,ts,0,0⟩ 400) :
  Calls Tryz.prog 7 #[WV cv hv 1,ClV ⟨4,0⟩ ⟨#[109]⟩ av,.int .i64 10,lv,tv] w fun e w'=>Below w.heap.size w w'/\∃ ac kc ah kh al kl at' kt,e=.returned (CaV (.slice ac 5 kc) (.slice ah 1 kh) 1 r (.slice al 1 kl) (.slice at' 1 kt) h k)/\xbk (fun b=>w.heap.size<=b) w' (.slice al 1 kl) st.cells/\xbc (fun b=>w.heap.size<=b) w' (.slice at' 1 kt) st.ts:=by
 refine (xfH a8Z xlJ ⟨4,0⟩ ⟨#[109]⟩ [⟨3,n⟩] 10 l ts cv hv av lv tv w hC hH hA hl ht (by decide) hf).mono ?_
 rintro e w3 ⟨hb3,cv3,hv3,lv3,tv3,rfl,hC3,hH3,hL3,hT3⟩;rw[hr] at hH3 hL3 hT3 ⊢;obtain⟨al,kl,rfl,-⟩:=id hL3;obtain⟨at',kt,rfl,-⟩:=id hT3;obtain⟨ac,kc,rfl,-⟩:=id hC3;obtain⟨ah,kh,rfl,-⟩:=id hH3;simp only at hL3 hT3;rw[h2] at hL3;rw[h3] at hT3;refine⟨hb3,ac,kc,ah,kh,al,kl,at',kt,?_,hL3,hT3⟩;simp only[h1,h2,h3,h4,h5]
 rfl
abbrev ZB:Obj:=.cells #[.slice none 0 0,.slice none 0 0,.int .i64 0,.int .i64 0,.int .i64 0,.int .i64 0,.int .i64 0,.slice none 0 0,.slice none 0 0,.int .i64 0,.int .i64 0] 39
structure S8 (B:Nat)(lv tv:Value)(w:World):Prop where
 a:w.cell? ⟨B,7,none⟩=some lv
 b:w.cell? ⟨B,8,none⟩=some tv
theorem S8.al {B:Nat}{lv tv:Value}{w:World}(h:S8 B lv tv w):w.cell? ⟨B,7,none⟩=some lv/\w.cell? ⟨B,8,none⟩=some tv:=⟨h.a,h.b⟩
theorem S8.later {B:Nat}{lv tv:Value}{w w':World}(h:S8 B lv tv w)(hb:Below w.heap.size w w'):S8 B lv tv w':=⟨qzA hb h.a,qzA hb h.b⟩
theorem S8.set {B:Nat}{lv tv:Value}{w:World}(h:S8 B lv tv w){b:Nat}(hb:b≠B)(o:Nat)(u:Value):S8 B lv tv (w.setCell ⟨b,o,none⟩ u):=⟨(World.cell?_setCell_far _ _ _ _ (by simpa using hb)).trans h.a,(World.cell?_setCell_far _ _ _ _ (by simpa using hb)).trans h.b⟩
theorem S8.set11 {B:Nat}{lv tv:Value}{w:World}(h:S8 B lv tv w){b:Nat}(hb:b≠B)(u0 u1 u2 u3 u4 u5 u6 u7 u8 u9 u10:Value):S8 B lv tv (((((((((((w.setCell ⟨b,0,none⟩ u0).setCell ⟨b,1,none⟩ u1).setCell ⟨b,2,none⟩ u2).setCell ⟨b,3,none⟩ u3).setCell ⟨b,4,none⟩ u4).setCell ⟨b,5,none⟩ u5).setCell ⟨b,6,none⟩ u6).setCell ⟨b,7,none⟩ u7).setCell ⟨b,8,none⟩ u8).setCell ⟨b,9,none⟩ u9).setCell ⟨b,10,none⟩ u10):=((((((((((h.set hb _ _).set hb _ _).set hb _ _).set hb _ _).set hb _ _).set hb _ _).set hb _ _).set hb _ _).set hb _ _).set hb _ _).set hb _ _
theorem xpa {w:World}{b B:Nat}{o:Obj}(hB:w.heap[B]?=some o)(hZ:w.heap[b]?=some ZB)(hn:b≠B)(u0 u1 u2 u3 u4 u5 u6 u7 u8 u9 u10:Value):(((((((((((w.setCell ⟨b,0,none⟩ u0).setCell ⟨b,1,none⟩ u1).setCell ⟨b,2,none⟩ u2).setCell ⟨b,3,none⟩ u3).setCell ⟨b,4,none⟩ u4).setCell ⟨b,5,none⟩ u5).setCell ⟨b,6,none⟩ u6).setCell ⟨b,7,none⟩ u7).setCell ⟨b,8,none⟩ u8).setCell ⟨b,9,none⟩ u9).setCell ⟨b,10,none⟩ u10).heap[B]?=some o/\(((((((((((w.setCell ⟨b,0,none⟩ u0).setCell ⟨b,1,none⟩ u1).setCell ⟨b,2,none⟩ u2).setCell ⟨b,3,none⟩ u3).setCell ⟨b,4,none⟩ u4).setCell ⟨b,5,none⟩ u5).setCell ⟨b,6,none⟩ u6).setCell ⟨b,7,none⟩ u7).setCell ⟨b,8,none⟩ u8).setCell ⟨b,9,none⟩ u9).setCell ⟨b,10,none⟩ u10).heap[b]?=some (.cells #[u0,u1,u2,u3,u4,u5,u6,u7,u8,u9,u10] 39)/\∀ {lo:Nat} {w0:World},Below lo w0 w->lo<=b->Below lo w0 (((((((((((w.setCell ⟨b,0,none⟩ u0).setCell ⟨b,1,none⟩ u1).setCell ⟨b,2,none⟩ u2).setCell ⟨b,3,none⟩ u3).setCell ⟨b,4,none⟩ u4).setCell ⟨b,5,none⟩ u5).setCell ⟨b,6,none⟩ u6).setCell ⟨b,7,none⟩ u7).setCell ⟨b,8,none⟩ u8).setCell ⟨b,9,none⟩ u9).setCell ⟨b,10,none⟩ u10):=
 ⟨by rw[xab hn.symm,xab hn.symm,xab hn.symm,xab hn.symm,xab hn.symm,xab hn.symm,xab hn.symm,xab hn.symm,xab hn.symm,xab hn.symm,xab hn.symm];exact hB,by rw[xad (xad (xad (xad (xad (xad (xad (xad (xad (xad (xad hZ _) _) _) _) _) _) _) _) _) _) _];simp only[List.setIfInBounds_toArray,List.set_cons_zero,List.set_cons_succ],fun hb hl=>((((((((((hb.setCell hl _).setCell hl _).setCell hl _).setCell hl _).setCell hl _).setCell hl _).setCell hl _).setCell hl _).setCell hl _).setCell hl _).setCell hl _⟩
theorem xi9 (w:World):Calls Tryz.prog 12 #[] w fun e w'=>e=.returned (.bool true)/\Below w.heap.size w w':=by
 go_enter Tryz.func12,Tryz.ntmps12;go_wp2_with fail;refine (xfR _).mono ?_;rintro e w1 ⟨a1,k1,g1,rfl,hC1,hH1,hb1⟩;go_wp2_with fail;refine (xhr 4 w1).mono ?_;rintro e w2 ⟨g2,rfl,hA2,hb2⟩;go_wp2_with fail;refine (xoJ 4 [] [] ⟨[⟨4,[]⟩],⟨3,5⟩,0,2⟩ a8S 0 1 xnn rfl rfl rfl rfl rfl _ _ _ _ _ w2 (hC1.later xaz hb2) (hH1.later xaD hb2) hA2 (xmy (fun _=>True) w2) (xjx (fun _=>True) w2) xo5).mono ?_
 rintro e w3 ⟨hb3,ac,kc,ah,kh,al,kl,at',kt,rfl,hL3,hT3⟩;have hbx:=heap_alloc_new w3 (CB (.slice ac 5 kc) (.slice ah 1 kh) 1 ⟨[⟨4,[]⟩],⟨3,5⟩,0,2⟩ (.slice al 1 kl) (.slice at' 1 kt) 0 1);have hb4:=xaj w3 (CB (.slice ac 5 kc) (.slice ah 1 kh) 1 ⟨[⟨4,[]⟩],⟨3,5⟩,0,2⟩ (.slice al 1 kl) (.slice at' 1 kt) 0 1);have HB4:=hid (xah (xah (xah hb1 hb2) hb3) hb4);have HL4:=hid (hL3.later xbw hb4);have HT4:=hid (hT3.later xbZ hb4);clear hC1 hH1 hA2 hL3 hT3 hb1 hb2 hb3 hb4
 go_upto_region 2 with (fail)
 generalize hVV:(w3.alloc (CB (.slice ac 5 kc) (.slice ah 1 kh) 1 ⟨[⟨4,[]⟩],⟨3,5⟩,0,2⟩ (.slice al 1 kl) (.slice at' 1 kt) 0 1))=V at *;have HZV:Hid (w3.heap.size<V.heap.size):=xaf hbx;generalize w3.heap.size=B at *;clear hVV;obtain⟨-,-,-,-,-,-,-,o7,o8,-,-⟩:=xgo hbx;have hS0:S8 B (.slice al 1 kl) (.slice at' 1 kt) V.drew:=⟨o7,o8⟩;have hSV:S8 B (.slice al 1 kl) (.slice at' 1 kt) V:=⟨o7,o8⟩;have HVB:=hid hbx;have hBV:B<V.heap.size:=HZV.out;clear o7 o8 hbx;have hDr:Below V.heap.size V V.drew:=(Below.refl _ V).drew;have tokA:True:=trivial
 go_region_held3 (fun w'=>w'.cell? ⟨B,7,none⟩=some (.slice al 1 kl)/\w'.cell? ⟨B,8,none⟩=some (.slice at' 1 kt))
  (first | with_reducible exact hS0.al | with_reducible exact hS1.al | with_reducible exact hS2.al | with_reducible exact hS3.al | with_reducible exact (hS3.later (xaj _ _)).al | with_reducible exact (hS2.later (xaj _ _)).al | with_reducible exact (hS1.later (xaj _ _)).al | with_reducible exact ((hSV.later (xaj _ _)).later (Below.refl _ _).drew).al | with_reducible exact (hS3.set11 hn7 _ _ _ _ _ _ _ _ _ _ _).al | fail)
  (first
   | (have _t:=tokA;go_at_call 31;refine (xfR _).mono ?_;rintro e w5 ⟨a5,k5,g5,rfl,hC5,hH5,hb5⟩;have hV5:Below V.heap.size V w5:=(by first | exact xah hDr hb5 | exact xah (xaj _ _).drew hb5);(try (have hZ5:w5.heap[V.heap.size]?=some ZB:=xac (show (V.alloc ZB).drew.heap[V.heap.size]?=_ from heap_alloc_new V ZB) hb5;have hn5:V.heap.size≠B:=(by omega)));have hS1:=hSV.later hV5;clear tokA;have tokB:True:=trivial)
   | (have _t:=tokB;go_at_call 32;refine (xhr 5 _).mono ?_;rintro e w6 ⟨g6,rfl,hA6,hb6⟩;have h56:Below w5.heap.size w5 w6:=(by first | exact hb6 | exact xah (xaj _ _) hb6);have hV6:=xah hV5 h56;have hS2:=hS1.later h56;(try (have hZ6:=xac hZ5 h56;have hn6:=hn5));(try (have hZ6:w6.heap[w5.heap.size]?=some ZB:=xac (heap_alloc_new w5 ZB) hb6;have hn6:w5.heap.size≠B:=(by have:=hV5.size;omega)));clear tokB;have tokC:True:=trivial)
   | (have _t:=tokC;go_at_call 7;refine (xoJ 5 a8S.cells a8S.ts ⟨[⟨4,[]⟩],⟨3,6⟩,0,2⟩ a8S2 1 0 xm1 rfl rfl rfl rfl rfl _ _ _ _ _ _ (hC5.later xaz (by first | exact h56 | exact xah h56 (xaj _ _))) (hH5.later xaD (by first | exact h56 | exact xah h56 (xaj _ _))) (hA6.later xaK (by first | exact Below.refl _ _ | exact xaj _ _)) (HL4.out.later xbw (by first | exact hV6 | exact xah hV6 (xaj _ _))) (HT4.out.later xbZ (by first | exact hV6 | exact xah hV6 (xaj _ _))) xpb).mono ?_;rintro e w7 ⟨hb7,ac7,kc7,ah7,kh7,al7,kl7,at7,kt7,rfl,hL7,hT7⟩;have h67:Below w6.heap.size w6 w7:=(by first | exact hb7 | exact xah (xaj _ _) hb7);have hV7:=xah hV6 h67;have hS3:=hS2.later h67;(try (have hZ7:=xac hZ6 h67;have hn7:=hn6));(try (have hZ7:w7.heap[w6.heap.size]?=some ZB:=xac (heap_alloc_new w6 ZB) hb7;have hn7:w6.heap.size≠B:=(by have:=hV6.size;omega)));(try (obtain⟨z0,z1,z2,z3,z4,z5,z6,z7,z8,z9,z10⟩:=xj6 (st:=⟨[],[],0,0⟩) hZ7;have zf:=xam hZ7));clear tokC))
 ·have v1:=xac (xac HVB.out hV7) (xaj w7 (CB (.slice ac7 5 kc7) (.slice ah7 1 kh7) 1 ⟨[⟨4,[]⟩],⟨3,6⟩,0,2⟩ (.slice al7 1 kl7) (.slice at7 1 kt7) 1 0));have v2:=heap_alloc_new w7 (CB (.slice ac7 5 kc7) (.slice ah7 1 kh7) 1 ⟨[⟨4,[]⟩],⟨3,6⟩,0,2⟩ (.slice al7 1 kl7) (.slice at7 1 kt7) 1 0);have v3:Below w.heap.size w (w7.alloc (CB (.slice ac7 5 kc7) (.slice ah7 1 kh7) 1 ⟨[⟨4,[]⟩],⟨3,6⟩,0,2⟩ (.slice al7 1 kl7) (.slice at7 1 kt7) 1 0)):=xah (xah HB4.out hV7) (xaj _ _);clear hS0 hSV hS1 hS2 hS3 hC5 hH5 hA6 hL7 hT7;generalize (w7.alloc (CB (.slice ac7 5 kc7) (.slice ah7 1 kh7) 1 ⟨[⟨4,[]⟩],⟨3,6⟩,0,2⟩ (.slice al7 1 kl7) (.slice at7 1 kt7) 1 0))=U at *
  generalize w7.heap.size=b2 at *;obtain⟨-,-,-,-,p4,-,-,-,-,p9,p10⟩:=xgo v1;obtain⟨-,-,-,-,q4,-,-,q7,q8,q9,q10⟩:=xgo v2;have HV3:=hid v3;clear v1 v2 v3;go_wp2
  go_ret
  exact⟨rfl,HV3.out⟩
 ·have hl7:w.heap.size<=w6.heap.size:=by have:=HB4.out.size;have:=hV5.size;have:=hV6.size;omega
  obtain⟨v1,v2,v3'⟩:=xpa (xac HVB.out hV7) hZ7 hn7 (.slice ac7 5 kc7) (.slice ah7 1 kh7) (.int .i64 1) (.int .i64 3) (.int .i64 6) (.int .i64 0) (.int .i64 2) (.slice al7 1 kl7) (.slice at7 1 kt7) (.int .i64 1) (.int .i64 0);have v3:Below w.heap.size w (((((((((((w7.setCell ⟨w6.heap.size,0,none⟩ (.slice ac7 5 kc7)).setCell ⟨w6.heap.size,1,none⟩ (.slice ah7 1 kh7)).setCell ⟨w6.heap.size,2,none⟩ (.int .i64 1)).setCell ⟨w6.heap.size,3,none⟩ (.int .i64 3)).setCell ⟨w6.heap.size,4,none⟩ (.int .i64 6)).setCell ⟨w6.heap.size,5,none⟩ (.int .i64 0)).setCell ⟨w6.heap.size,6,none⟩ (.int .i64 2)).setCell ⟨w6.heap.size,7,none⟩ (.slice al7 1 kl7)).setCell ⟨w6.heap.size,8,none⟩ (.slice at7 1 kt7)).setCell ⟨w6.heap.size,9,none⟩ (.int .i64 1)).setCell ⟨w6.heap.size,10,none⟩ (.int .i64 0)):=v3' (xah HB4.out hV7) hl7
  clear hS0 hSV hS1 hS2 hS3 hC5 hH5 hA6 hL7 hT7 v3' hZ7 z0 z1 z2 z3 z4 z5 z6 z7 z8 z9 z10 zf hn7 hl7;generalize (((((((((((w7.setCell ⟨w6.heap.size,0,none⟩ (.slice ac7 5 kc7)).setCell ⟨w6.heap.size,1,none⟩ (.slice ah7 1 kh7)).setCell ⟨w6.heap.size,2,none⟩ (.int .i64 1)).setCell ⟨w6.heap.size,3,none⟩ (.int .i64 3)).setCell ⟨w6.heap.size,4,none⟩ (.int .i64 6)).setCell ⟨w6.heap.size,5,none⟩ (.int .i64 0)).setCell ⟨w6.heap.size,6,none⟩ (.int .i64 2)).setCell ⟨w6.heap.size,7,none⟩ (.slice al7 1 kl7)).setCell ⟨w6.heap.size,8,none⟩ (.slice at7 1 kt7)).setCell ⟨w6.heap.size,9,none⟩ (.int .i64 1)).setCell ⟨w6.heap.size,10,none⟩ (.int .i64 0))=U at *
  generalize w6.heap.size=b2 at *;replace v2:U.heap[b2]?=some (CB (.slice ac7 5 kc7) (.slice ah7 1 kh7) 1 ⟨[⟨4,[]⟩],⟨3,6⟩,0,2⟩ (.slice al7 1 kl7) (.slice at7 1 kt7) 1 0):=v2;obtain⟨-,-,-,-,p4,-,-,-,-,p9,p10⟩:=xgo v1;obtain⟨-,-,-,-,q4,-,-,q7,q8,q9,q10⟩:=xgo v2;have HV3:=hid v3;clear v1 v2 v3;go_wp2
  go_ret
  exact⟨rfl,HV3.out⟩
 ·have hl7:w.heap.size<=w5.heap.size:=by have:=HB4.out.size;have:=hV5.size;have:=hV6.size;omega
  obtain⟨v1,v2,v3'⟩:=xpa (xac HVB.out hV7) hZ7 hn7 (.slice ac7 5 kc7) (.slice ah7 1 kh7) (.int .i64 1) (.int .i64 3) (.int .i64 6) (.int .i64 0) (.int .i64 2) (.slice al7 1 kl7) (.slice at7 1 kt7) (.int .i64 1) (.int .i64 0);have v3:Below w.heap.size w (((((((((((w7.setCell ⟨w5.heap.size,0,none⟩ (.slice ac7 5 kc7)).setCell ⟨w5.heap.size,1,none⟩ (.slice ah7 1 kh7)).setCell ⟨w5.heap.size,2,none⟩ (.int .i64 1)).setCell ⟨w5.heap.size,3,none⟩ (.int .i64 3)).setCell ⟨w5.heap.size,4,none⟩ (.int .i64 6)).setCell ⟨w5.heap.size,5,none⟩ (.int .i64 0)).setCell ⟨w5.heap.size,6,none⟩ (.int .i64 2)).setCell ⟨w5.heap.size,7,none⟩ (.slice al7 1 kl7)).setCell ⟨w5.heap.size,8,none⟩ (.slice at7 1 kt7)).setCell ⟨w5.heap.size,9,none⟩ (.int .i64 1)).setCell ⟨w5.heap.size,10,none⟩ (.int .i64 0)):=v3' (xah HB4.out hV7) hl7
  clear hS0 hSV hS1 hS2 hS3 hC5 hH5 hA6 hL7 hT7 v3' hZ7 z0 z1 z2 z3 z4 z5 z6 z7 z8 z9 z10 zf hn7 hl7;generalize (((((((((((w7.setCell ⟨w5.heap.size,0,none⟩ (.slice ac7 5 kc7)).setCell ⟨w5.heap.size,1,none⟩ (.slice ah7 1 kh7)).setCell ⟨w5.heap.size,2,none⟩ (.int .i64 1)).setCell ⟨w5.heap.size,3,none⟩ (.int .i64 3)).setCell ⟨w5.heap.size,4,none⟩ (.int .i64 6)).setCell ⟨w5.heap.size,5,none⟩ (.int .i64 0)).setCell ⟨w5.heap.size,6,none⟩ (.int .i64 2)).setCell ⟨w5.heap.size,7,none⟩ (.slice al7 1 kl7)).setCell ⟨w5.heap.size,8,none⟩ (.slice at7 1 kt7)).setCell ⟨w5.heap.size,9,none⟩ (.int .i64 1)).setCell ⟨w5.heap.size,10,none⟩ (.int .i64 0))=U at *
  generalize w5.heap.size=b2 at *;replace v2:U.heap[b2]?=some (CB (.slice ac7 5 kc7) (.slice ah7 1 kh7) 1 ⟨[⟨4,[]⟩],⟨3,6⟩,0,2⟩ (.slice al7 1 kl7) (.slice at7 1 kt7) 1 0):=v2;obtain⟨-,-,-,-,p4,-,-,-,-,p9,p10⟩:=xgo v1;obtain⟨-,-,-,-,q4,-,-,q7,q8,q9,q10⟩:=xgo v2;have HV3:=hid v3;clear v1 v2 v3;go_wp2
  go_ret
  exact⟨rfl,HV3.out⟩
 ·have hl7:w.heap.size<=V.heap.size:=by have:=HB4.out.size;have:=hV5.size;have:=hV6.size;omega
  obtain⟨v1,v2,v3'⟩:=xpa (xac HVB.out hV7) hZ7 hn7 (.slice ac7 5 kc7) (.slice ah7 1 kh7) (.int .i64 1) (.int .i64 3) (.int .i64 6) (.int .i64 0) (.int .i64 2) (.slice al7 1 kl7) (.slice at7 1 kt7) (.int .i64 1) (.int .i64 0);have v3:Below w.heap.size w (((((((((((w7.setCell ⟨V.heap.size,0,none⟩ (.slice ac7 5 kc7)).setCell ⟨V.heap.size,1,none⟩ (.slice ah7 1 kh7)).setCell ⟨V.heap.size,2,none⟩ (.int .i64 1)).setCell ⟨V.heap.size,3,none⟩ (.int .i64 3)).setCell ⟨V.heap.size,4,none⟩ (.int .i64 6)).setCell ⟨V.heap.size,5,none⟩ (.int .i64 0)).setCell ⟨V.heap.size,6,none⟩ (.int .i64 2)).setCell ⟨V.heap.size,7,none⟩ (.slice al7 1 kl7)).setCell ⟨V.heap.size,8,none⟩ (.slice at7 1 kt7)).setCell ⟨V.heap.size,9,none⟩ (.int .i64 1)).setCell ⟨V.heap.size,10,none⟩ (.int .i64 0)):=v3' (xah HB4.out hV7) hl7
  clear hS0 hSV hS1 hS2 hS3 hC5 hH5 hA6 hL7 hT7 v3' hZ7 z0 z1 z2 z3 z4 z5 z6 z7 z8 z9 z10 zf hn7 hl7;generalize (((((((((((w7.setCell ⟨V.heap.size,0,none⟩ (.slice ac7 5 kc7)).setCell ⟨V.heap.size,1,none⟩ (.slice ah7 1 kh7)).setCell ⟨V.heap.size,2,none⟩ (.int .i64 1)).setCell ⟨V.heap.size,3,none⟩ (.int .i64 3)).setCell ⟨V.heap.size,4,none⟩ (.int .i64 6)).setCell ⟨V.heap.size,5,none⟩ (.int .i64 0)).setCell ⟨V.heap.size,6,none⟩ (.int .i64 2)).setCell ⟨V.heap.size,7,none⟩ (.slice al7 1 kl7)).setCell ⟨V.heap.size,8,none⟩ (.slice at7 1 kt7)).setCell ⟨V.heap.size,9,none⟩ (.int .i64 1)).setCell ⟨V.heap.size,10,none⟩ (.int .i64 0))=U at *
  generalize V.heap.size=b2 at *;replace v2:U.heap[b2]?=some (CB (.slice ac7 5 kc7) (.slice ah7 1 kh7) 1 ⟨[⟨4,[]⟩],⟨3,6⟩,0,2⟩ (.slice al7 1 kl7) (.slice at7 1 kt7) 1 0):=v2;obtain⟨-,-,-,-,p4,-,-,-,-,p9,p10⟩:=xgo v1;obtain⟨-,-,-,-,q4,-,-,q7,q8,q9,q10⟩:=xgo v2;have HV3:=hid v3;clear v1 v2 v3;go_wp2
  go_ret
  exact⟨rfl,HV3.out⟩
theorem xmr {w:World}{l:List Int}(hl:l.length<=1000)(n:Nat)(hn:w.heap.size=n):xiS (fun b=>n<=b) (w.alloc (.cells (xcg l).toArray 3 (0,0))) (.slice (some ⟨n,0,none⟩) l.length l.length) l:=
 Cells.row (xi2 l) xlb (qzC _) (xba _ _ _ hn) (by rw[List.take_of_length_le (by simp[xcg])];simp[xcg]) (qzC _) (by unfold maxLen;omega) (by omega)
def NextP (w:World)(x:QI)(p:Int)(e:Ending)(w':World):Prop:=
 ∃ a k,e=.returned (.tuple #[.int .i64 (xaN x p).need,.int .i64 (xaN x p).more,.slice a (xaN x p).next.length k])/\xiS (fun b=>w.heap.size<=b) w' (.slice a (xaN x p).next.length k) (xaN x p).next/\Below w.heap.size w w'
theorem NextP.mk {w W:World}{x:QI}{p need more:Int}{l:List Int}{e:Ending}{n:Nat}(h:xaN x p=⟨need,more,l⟩)(hn:W.heap.size=n)(hl:l.length<=1000)(hw:w.heap.size<=n)(he:e=.returned (.tuple #[.int .i64 need,.int .i64 more,.slice (some ⟨n,0,none⟩) l.length l.length]))(hb:Below w.heap.size w W):NextP w x p e (W.alloc (.cells (xcg l).toArray 3 (0,0))):=by
 unfold NextP;rw[h]
 exact⟨_,_,he,(xmr hl n hn).mono xlb fun b hb=>by omega,hb.alloc (by omega) _⟩
theorem NextP.drew {w w':World}{x:QI}{p:Int}{e:Ending}(h:NextP w x p e w'):NextP w x p e w'.drew:=by
 obtain⟨a,k,h1,h2,h3⟩:=h
 exact⟨a,k,h1,h2.later xlb (Below.refl _ _).drew,h3.drew⟩
theorem xlr (x:QI)(p:Int)(w:World)(hx:x.op=14->0<=x.a/\x.a<=4)(hp:IntKind.i64.wrap (p+1)=p+1):Calls Tryz.prog 53 #[IV x,.int .i64 p] w fun e w'=>NextP w x p e w':=by
 obtain⟨op,xa,xb,xc,nm⟩:=x;simp only at hx;have hb1:=xaj w (Obj.cells #[.int .i64 op,.int .i64 xa,.int .i64 xb,.int .i64 xc,.string nm] 76);go_enter Tryz.func53,Tryz.ntmps53
 by_cases h1:op=9\/op=11\/op=12
 ·rcases h1 with rfl | rfl | rfl
  all_goals
   go_wp2;refine bodyPost_ret (v:=.tuple #[.int .i64 1,.int .i64 (-1),.slice (some ⟨w.heap.size+1,0,none⟩) 1 1]) (by simp[results,Tryz.results53,go_sem]) rfl (NextP.mk (l:=[p+1]) (by simp[xaN]) (by simp) (by simp) (by omega) rfl (xaj _ _))
 ·by_cases h2:op=10
  ·subst h2;go_wp2;refine bodyPost_ret (v:=.tuple #[.int .i64 (1),.int .i64 (1),.slice (some ⟨w.heap.size+1,0,none⟩) 1 1]) (by simp[results,Tryz.results53,go_sem]) rfl (NextP.mk (l:=[p+1]) (by simp[xaN]) (by simp) (by simp) (by omega) rfl (xaj _ _))
  ·by_cases h3:op=14
   ·subst h3;obtain⟨q1,q2⟩:=hx rfl;have hw1:IntKind.i64.wrap (xa+1)=xa+1:=xaE (by omega) (by omega)
    have hw2:IntKind.i64.wrap (-xa)=-xa:=xaE (by omega) (by omega)
    go_wp2
    go_region
    all_goals go_wp2
    all_goals refine bodyPost_ret (v:=.tuple #[.int .i64 (xa+1),.int .i64 (-xa),.slice (some ⟨w.heap.size+1,0,none⟩) 1 1]) (by simp[results,Tryz.results53,go_sem]) rfl ?_
    all_goals exact (NextP.mk (l:=[p+1]) (by simp[xaN]) (by simp) (by simp) (by omega) rfl (xaj _ _)).drew
   ·by_cases h4:op=15
    ·subst h4;go_wp2
     go_region
     all_goals go_wp2
     all_goals refine bodyPost_ret (v:=.tuple #[.int .i64 0,.int .i64 0,.slice (some ⟨w.heap.size+1,0,none⟩) 1 1]) (by simp[results,Tryz.results53,go_sem]) rfl ?_
     all_goals exact (NextP.mk (l:=[xa]) (by simp[xaN]) (by simp) (by simp) (by omega) rfl (xaj _ _)).drew
    ·by_cases h5:op=16
     ·subst h5;go_wp2
      go_region
      all_goals go_wp2
      all_goals refine bodyPost_ret (v:=.tuple #[.int .i64 1,.int .i64 (-1),.slice (some ⟨w.heap.size+1,0,none⟩) 2 2]) (by simp[results,Tryz.results53,go_sem]) rfl ?_
      all_goals exact (NextP.mk (l:=[p+1,xa]) (by simp[xaN]) (by simp) (by simp) (by omega) rfl (xaj _ _)).drew
     ·by_cases h6:op=17
      ·subst h6;go_wp2;refine bodyPost_ret (v:=.tuple #[.int .i64 1,.int .i64 (-1),.slice none 0 0]) (by simp[results,Tryz.results53,go_sem]) rfl ?_
       unfold NextP;rw[show xaN ⟨17,xa,xb,xc,nm⟩ p=⟨1,-1,[]⟩ from by simp[xaN]]
       exact⟨none,0,rfl,xbG,xaj _ _⟩
      ·have n1:¬ op=9:=fun h=>h1 (Or.inl h)
       have n2:¬ op=11:=fun h=>h1 (Or.inr (Or.inl h))
       have n3:¬ op=12:=fun h=>h1 (Or.inr (Or.inr h))
       go_wp2;refine bodyPost_ret (v:=.tuple #[.int .i64 0,.int .i64 1,.slice (some ⟨w.heap.size+1,0,none⟩) 1 1]) (by simp[results,Tryz.results53,go_sem]) rfl (NextP.mk (l:=[p+1]) (by simp[xaN,h2,h3,h4,h5,h6,n1,n2,n3]) (by simp) (by simp) (by omega) rfl (xaj _ _))
abbrev RowI (w:World)(base g k:Nat)(l:List Int):Prop:=w.ownsRow base 3 1 (.slice (some ⟨g,0,none⟩) l.length k) l.length (xcg l)
theorem RowI.lt {w:World}{base g k:Nat}{l:List Int}(h:RowI w base g k l):base<=g/\g<w.heap.size:=by
 obtain⟨-,⟨e,-⟩ | ⟨g',c,cur,e,h1,h2,-⟩⟩:=h
 ·cases e
 ·cases e;exact⟨h1,xaf h2⟩
theorem RowI.keep {w w':World}{base g k:Nat}{l:List Int}(h:RowI w base g k l)(hk:w'.heap[g]?=w.heap[g]?):RowI w' base g k l:=by
 obtain⟨h0,⟨e,-⟩ | ⟨g',c,cur,e,h1,h2,h3⟩⟩:=h
 ·cases e
 ·cases e;exact⟨h0,Or.inr ⟨g,k,cur,rfl,h1,hk.trans h2,h3⟩⟩
theorem RowI.cell {w:World}{base g k:Nat}{l:List Int}(h:RowI w base g k l){j:Nat}(hj:j<l.length):w.cell? ⟨g,j,none⟩=some (.int .i64 (l.getD j 0)):=by
 obtain⟨h0,⟨e,-⟩ | ⟨g',c,cur,e,h1,h2,h3,h4,h5,h6⟩⟩:=h
 ·cases e
 ·cases e
  have hq:(xcg l)[j]?=some (.int .i64 (l.getD j 0)):=by simp[xcg,hj]
  rw[qzB h2];rw[← h6,List.getElem?_take] at hq
  split at hq
  ·simpa using hq
  ·cases hq
structure Two (w:World)(base gA kA gB kB:Nat)(A B:List Int):Prop where
 a:RowI w base gA kA A
 b:RowI w base gB kB B
 ne:gA≠gB
theorem Two.keep {w w':World}{base gA kA gB kB:Nat}{A B:List Int}(h:Two w base gA kA gB kB A B)(hb:∀ b,base<=b->b<w.heap.size->w'.heap[b]?=w.heap[b]?):Two w' base gA kA gB kB A B:=
 ⟨h.a.keep (hb _ h.a.lt.1 h.a.lt.2),h.b.keep (hb _ h.b.lt.1 h.b.lt.2),h.ne⟩
theorem Two.later {w w':World}{base gA kA gB kB:Nat}{A B:List Int}(h:Two w base gA kA gB kB A B)(hb:Below w.heap.size w w'):Two w' base gA kA gB kB A B:=h.keep fun b _ hl=>hb.block b hl
theorem Two.first {w w2:World}{base gA kA gB kB gg cap2:Nat}{A B:List Int}{X:Obj}{t:Int}(h:Two w base gA kA gB kB A B)(hown:w2.ownsRow base 3 1 (.slice (some ⟨gg,0,none⟩) (A.length+1) cap2) (A.length+1) (xcg A++[.int .i64 t]))(hgr:(w.alloc X).grownBy w2 (Value.ownBlock (.slice (some ⟨gA,0,none⟩) A.length kA)))(hor:(Value.ownBlock (.slice (some ⟨gA,0,none⟩) A.length kA))=some gg\/gg=(w.alloc X).heap.size)(hbase:base<=w.heap.size):Two w2 base gg cap2 gB kB (A++[t]) B/\Below base w w2:=by
 have hne:=h.ne;have hbl:=h.b.lt;have hal:=h.a.lt
 simp[Value.ownBlock] at hor
 refine⟨⟨?_,(h.b.keep ((xaj w X).block _ hbl.2)).keep (hgr.block gB (by simp;omega) (by simp[Value.ownBlock];omega)),by omega⟩,?_⟩
 ·show w2.ownsRow base 3 1 (.slice (some ⟨gg,0,none⟩) (A++[t]).length cap2) (A++[t]).length (xcg (A++[t]))
  simpa [xcg] using hown
 ·exact ((Below.refl base w).alloc hbase X).grown hgr (by simp;omega) fun k hk=>by simp[Value.ownBlock] at hk;omega
theorem Two.swap {w:World}{base gA kA gB kB:Nat}{A B:List Int}(h:Two w base gA kA gB kB A B):Two w base gB kB gA kA B A:=⟨h.b,h.a,Ne.symm h.ne⟩
structure RefH (w W0:World)(code:List QI)(gA kA gB kB:Nat)(A B h:List Int)(wr:World):Prop where
 two:Two wr (w.heap.size+3) gA kA gB kB A B
 row:wr.heap[w.heap.size+1+1]?=some (xiz h)
 bel:Below (w.heap.size+2) W0 wr
 size:w.heap.size+3<=wr.heap.size
 len:A.length=B.length
theorem RefH.later {w W0:World}{code:List QI}{gA kA gB kB:Nat}{A B h:List Int}{wr w':World}(hS:RefH w W0 code gA kA gB kB A B h wr)(hb:Below wr.heap.size wr w'):RefH w W0 code gA kA gB kB A B h w':=
 ⟨hS.two.later hb,xac hS.row hb,hS.bel.trans (hb.mono (by have:=hS.size;omega)),qzD hS.size hb.size,hS.len⟩
theorem xmq {A B:List Int}(hl:A.length=B.length){k:Nat}(hk:k<A.length):(A.zip B).drop k=(A.getD k 0,B.getD k 0) :: (A.zip B).drop (k+1):=by
 have h1:k<(A.zip B).length:=by simp;omega
 rw[List.drop_eq_getElem_cons h1]
 congr 1
 simp[show k<B.length by omega,hk]
theorem xmf {A B:List Int}(hl:A.length=B.length){k:Nat}(hk:k<=A.length)(l:List Int)(v:Int):((A++l).zip (B++l.map fun _=>v)).drop k=(A.zip B).drop k++l.map fun t=>(t,v):=by
 rw[List.zip_append hl,List.drop_append_of_le_length (by simp;omega)]
 congr 1
 induction l with
 | nil=>rfl
 | cons a r ih=>simp[ih]
theorem xg0 {P:Nat->Prop}(m:QM)(mv:Value)(w:World)(hc:xa5 P w mv m.code)(hs:xc5 m.code):Calls Tryz.prog 38 #[MV m mv] w fun e w'=>xiY w m.code e w':=by
 obtain⟨ad,cap,rfl,hcl,hcap,hcb,hrow⟩:=id hc;unfold maxLen at hcap;obtain⟨i0,hi,hz0,hz1,hz2⟩:=xa3 xh7;have hmi:=xkC m.code.length (by omega)
 go_enter Tryz.func38,Tryz.ntmps38;go_wp2;generalize hW0:((w.alloc (Obj.cells #[Value.string m.name,Value.int .i64 m.args,Value.int .i64 m.temps,Value.int .i64 m.prim,Value.slice ad m.code.length cap] 59)).alloc (Obj.cells #[Value.int .i64 0,Value.int .i64 0] 61))=W0 at *;have hs0:W0.heap.size=w.heap.size+1+1:=by rw[← hW0];simp
 have hbW:Below w.heap.size w W0:=by rw[← hW0];exact xca _ _ _
 have mb:W0.heap[w.heap.size]?=some (.cells #[Value.string m.name,Value.int .i64 m.args,Value.int .i64 m.temps,Value.int .i64 m.prim,Value.slice ad m.code.length cap] 59 (0,0)):=by rw[← hW0,(xaj _ _).block _ (by simp)];exact xba _ _ _ rfl
 have rb:W0.heap[w.heap.size+1]?=some (.cells #[Value.int .i64 0,Value.int .i64 0] 61 (0,0)):=by rw[← hW0];exact xba _ _ _ (by simp)
 clear hW0
 go_loopg [22] m.code.length (fun g i wr=>∃ j:Nat,j+g=m.code.length/\i=.int .i64 j/\Below (w.heap.size+2) W0 wr/\wr.heap.size=w.heap.size+3/\wr.heap[w.heap.size+1+1]?=some (xiz (List.replicate j (-1)++List.replicate (m.code.length-j) 0)))
 case atStart=>exact⟨0,by omega,rfl,(xaj _ _).mono (by omega),by simp[hs0],by simpa using xba W0 (xiz (List.replicate m.code.length 0)) _ hs0⟩
 case round=>
  obtain⟨j,hg,rfl,hb,hz,hr⟩:=hrel
  by_cases hj:j<m.code.length
  ·have hj1:(j:Int)<(m.code.length:Int):=by omega
   have hj0:(0:Int)<=(j:Int):=by omega
   have hcell:=xgV hr (k:=j) (by simp;omega)
   have hfree:=xgL hr j;have hset:=xi3 hr j (-1);rw[xl4 hj] at hset;generalize (List.replicate j (-1:Int)++List.replicate (m.code.length-j) 0).getD j 0=u at hcell;go_wp2
   go_roundg (gk-1)
   case measure=>omega
   case rel=>exact⟨j+1,by omega,by go_num,hb.setCell (by show w.heap.size+2<=w.heap.size+1+1;omega) _,by rw[xbg];exact hz,hset⟩
  ·obtain rfl:j=m.code.length:=by omega
   have hr':wr.heap[w.heap.size+1+1]?=some (xiz (xcS m.code.length)):=by simpa [xcS] using hr
   clear hr;have hj1:(m.code.length:Int)<=(m.code.length:Int):=by omega
   have hb2:=xca wr (Obj.cells #[Value.int .i64 0] 3) (Obj.cells #[Value.int .i64 0] 3)
   have hT:Two ((wr.alloc (Obj.cells #[Value.int .i64 0] 3)).alloc (Obj.cells #[Value.int .i64 0] 3)) (w.heap.size+3) (w.heap.size+3) 1 (w.heap.size+3+1) 1 [0] [0]:=
    ⟨⟨rfl,Or.inr ⟨_,1,#[Value.int .i64 0],rfl,qzC _,((xaj _ _).block _ (by simp[hz])).trans (xba _ _ _ hz),by simp,by unfold maxLen;omega,rfl,rfl⟩⟩,
     ⟨rfl,Or.inr ⟨_,1,#[Value.int .i64 0],rfl,by omega,xba _ _ _ (by simp[hz]),by simp,by unfold maxLen;omega,rfl,rfl⟩⟩,by omega⟩
   have hS:RefH w W0 m.code (w.heap.size+3) 1 (w.heap.size+3+1) 1 [0] [0] (xcS m.code.length) ((wr.alloc (Obj.cells #[Value.int .i64 0] 3)).alloc (Obj.cells #[Value.int .i64 0] 3)):=
    ⟨hT,xac hr' hb2,hb.trans (hb2.mono (by omega)),by simp[hz],rfl⟩
   go_wp2
   go_loopg [6,7,8] (2*m.code.length+1) (fun g va vb kk wr=>∃ (gA kA gB kB:Nat) (A B h:List Int) (k:Nat),va=.slice (some ⟨gA,0,none⟩) A.length kA/\vb=.slice (some ⟨gB,0,none⟩) B.length kB/\kk=.int .i64 k/\k+g<=2*m.code.length+1/\k<=A.length/\xhD m.code g h ((A.zip B).drop k)=xaH m.code/\HInv m.code h ((A.zip B).drop k)/\xec h ((A.zip B).drop k)<=g/\RefH w W0 m.code gA kA gB kB A B h wr)
   case atStart=>exact⟨w.heap.size+3,1,w.heap.size+3+1,1,[0],[0],_,0,by simp[hz],by simp[hz],rfl,by omega,by simp,rfl,HInv.start _,Nat.le_of_eq (xfe _),hS⟩
   case round=>
    obtain⟨gA,kA,gB,kB,A,B,h,k,rfl,rfl,rfl,hkg,hkA,hR,hI,hL,hS⟩:=hrel;clear hT hb2 hr' hb hz;have HLEN:Hid (A.length=B.length):=hS.len
    by_cases hk:k<A.length
    ·have hzd:=xmq HLEN.out hk;rw[hzd] at hR hI hL;obtain⟨g',rfl⟩:∃ g',gk=g'+1:=⟨gk-1,by simp[xec] at hL;omega⟩
     have HR:Hid (xhD m.code (g'+1) h ((A.getD k 0,B.getD k 0) :: (A.zip B).drop (k+1))=xaH m.code):=hR;have HI:Hid (HInv m.code h ((A.getD k 0,B.getD k 0) :: (A.zip B).drop (k+1))):=hI;have HL:Hid (xec h ((A.getD k 0,B.getD k 0) :: (A.zip B).drop (k+1))<=g'+1):=hL;have hw:=hI.wait _ (List.mem_cons_self ..);have hhl:=hI.len;simp only at hw;clear hR hI hL hzd;have ca:=hS.two.a.cell hk;have cb:=hS.two.b.cell (j:=k) (by have:=HLEN.out;omega)
     obtain⟨p,hp⟩:∃ p,p=A.getD k 0:=⟨_,rfl⟩;obtain⟨n,hn⟩:∃ n,n=B.getD k 0:=⟨_,rfl⟩;rw[← hp] at ca HR HI HL;rw[← hn] at cb HR HI HL hw;clear hp hn;have hk0:(0:Int)<=(k:Int):=by omega
     have hk1:(k:Int)<(A.length:Int):=by omega
     have hk2:(k:Int)<(B.length:Int):=by have:=HLEN.out;omega
     go_wp2
     go_quiet (fail)
     replace hS:=hS.later (below_drewN (Below.refl _ _) nq);clear ca cb;generalize wr.drewN nq=wq at *;have hbq:Below w.heap.size w wq:=hbW.trans (hS.bel.mono (by omega))
     have mq:wq.heap[w.heap.size]?=some (.cells #[Value.string m.name,Value.int .i64 m.args,Value.int .i64 m.temps,Value.int .i64 m.prim,Value.slice ad m.code.length cap] 59 (0,0)):=(hS.bel.block _ (by omega)).trans mb
     have rq:wq.heap[w.heap.size+1]?=some (.cells #[Value.int .i64 0,Value.int .i64 0] 61 (0,0)):=(hS.bel.block _ (by omega)).trans rb
     have mc:wq.cell? ⟨w.heap.size,4,none⟩=some (.slice ad m.code.length cap):=by rw[qzB mq];rfl
     obtain⟨rc,rf⟩:(∀ q,wq.cell? ⟨w.heap.size+1,q,none⟩=(#[Value.int .i64 0,.int .i64 0]:Array Value)[q]?)/\(∀ o,wq.frozen? ⟨w.heap.size+1,o,none⟩=false):=⟨fun q=>by rw[qzB rq],fun o=>by unfold World.frozen?;simp[rq]⟩
     have hfault:Hid (∀ (f:Int × Int) (W:World),xcM m.code h (p,n)=.inl f->Below w.heap.size w W->xiY w m.code (.returned (.tuple #[.slice none 0 0,FV f])) W):=fun f W hst hb=>by
      have HE:xaH m.code=([],f):=by rw[← HR.out];unfold xhD;rw[hst]
      exact⟨hb,Or.inr ⟨by rw[HE];exact xeT hst,by rw[HE]⟩⟩
     have hbs:∀ (W:World) (u v:Value),Below w.heap.size w W->Below w.heap.size w ((W.setCell ⟨w.heap.size+1,0,none⟩ u).setCell ⟨w.heap.size+1,1,none⟩ v):=fun W u v hb=>(hb.setCell (by show w.heap.size<=w.heap.size+1;omega) _).setCell (by show w.heap.size<=w.heap.size+1;omega) _
     have HBS:=(show Hid (∀ (W:World) (u v:Value),Below w.heap.size w W->Below w.heap.size w ((W.setCell ⟨w.heap.size+1,0,none⟩ u).setCell ⟨w.heap.size+1,1,none⟩ v)) from hbs)
     clear hbs
     cases hx:xc3 m.code p with
     | none=>
      have hst:xcM m.code h (p,n)=.inl (9,(m.code.length:Int)):=by unfold xcM;simp only[hx]
      have HF:=hfault.out _ (((wq.setCell ⟨w.heap.size+1,0,none⟩ (.int .i64 9)).setCell ⟨w.heap.size+1,1,none⟩ (.int .i64 m.code.length))) hst (HBS.out _ _ _ hbq);have HF2:=hfault.out _ (((wq.setCell ⟨w.heap.size+1,0,none⟩ (.int .i64 9)).setCell ⟨w.heap.size+1,1,none⟩ (.int .i64 m.code.length))).drew hst (HBS.out _ _ _ hbq).drew;rw[xgS] at hx
      by_cases hpl:(m.code.length:Int)<=p
      ·go_wp2
       go_region
       all_goals go_wp2
       all_goals refine bodyPost_ret (v:=.tuple #[.slice none 0 0,FV (9,m.code.length)]) ?_ rfl ?_
       all_goals first
        | (simp[results,Tryz.results38,go_sem,rc,rf];done)
        | exact HF
        | exact HF2
      ·have hpl':decide ((m.code.length:Int)<=p)=false:=by simpa using hpl
       have hp0:p<0:=by omega
       go_wp2
       go_region
       all_goals go_wp2
       all_goals refine bodyPost_ret (v:=.tuple #[.slice none 0 0,FV (9,m.code.length)]) ?_ rfl ?_
       all_goals first
        | (simp[results,Tryz.results38,go_sem,rc,rf];done)
        | exact HF
        | exact HF2
     | some x=>
      obtain⟨q,rfl,hxq⟩:=xdp hx;have hq:=xae hxq;have hq0:(0:Int)<=(q:Int):=by omega
      have hq1:(q:Int)<(m.code.length:Int):=by omega
      have hq2:decide ((m.code.length:Int)<=(q:Int))=false:=by simp;omega
      have hcell:=xgV hS.row (k:=q) (by omega)
      have hfree:=xgL hS.row q;have hsx:=hs x (List.mem_of_getElem? hxq);obtain⟨bc,oc,rfl,-,e0,e1,e2,e3,e4,-⟩:=hrow q x hxq;simp only[Nat.add_zero] at e0;have hbc:=World.block_lt_of_cell? _ _ e0;simp only at hbc;obtain⟨u,hu⟩:∃ u,u=h.getD q 0:=⟨_,rfl⟩
      have hst0:Hid (xcM m.code h ((q:Int),n)=if 0<=u then (if u≠n then .inl (8,(q:Int)) else .inr (h,[])) else if n<(xaN x q).need\/x.op=17/\n≠1 then .inl (8,(q:Int)) else if 12<n+(xaN x q).more then .inl (4,(q:Int)) else .inr (h.set q n,(xaN x q).next.map fun t=>(t,n+(xaN x q).more))):=by
       show _=_
       unfold xcM;simp only[hx,Int.toNat_natCast];rw[← hu]
      rw[← hu] at hcell;clear hu hx
      by_cases hv0:0<=u
      ·by_cases hv1:u=n
       ·have hst:xcM m.code h ((q:Int),n)=.inr (h,[]):=by rw[hst0.out,if_pos hv0,if_neg (by simpa using hv1)]
        obtain⟨k1,k2⟩:=HI.out.step hs hst
        have K3:Hid (xhD m.code g' h ((A.zip B).drop (k+1))=xaH m.code):=by
         show _=_
         rw[← HR.out]
         conv=>rhs;unfold xhD;rw[hst]
         simp
        have k4:=HL.out;rw[List.append_nil] at k1 k2;have K1:Hid (HInv m.code h ((A.zip B).drop (k+1))):=k1;have K2:Hid (xec h ((A.zip B).drop (k+1))<=g'):=by show _<=_;omega
        subst hv1;clear k1 k2 k4;go_wp2
        go_roundg g'
        case measure=>omega
        case rel=>exact⟨gA,kA,gB,kB,A,B,h,k+1,rfl,rfl,by go_num,by omega,by omega,K3.out,K1.out,K2.out,hS⟩
       ·have hst:xcM m.code h ((q:Int),n)=.inl (8,(q:Int)):=by rw[hst0.out,if_pos hv0,if_pos hv1]
        have HF:=hfault.out _ _ hst (HBS.out wq (.int .i64 8) (.int .i64 q) hbq);have hv1':(u != n)=true:=by simpa using hv1
        go_wp2;refine bodyPost_ret (v:=.tuple #[.slice none 0 0,FV (8,(q:Int))]) ?_ rfl HF
        simp[results,Tryz.results38,go_sem,rc,rf]
      ·have hv0':decide (0<=u)=false:=by simpa using hv0
       have hS1:RefH w W0 m.code gA kA gB kB A B (h.set q n) (wq.setCell ⟨w.heap.size+1+1,q,none⟩ (.int .i64 n)):=by
        have hsz:=hS.size;refine⟨hS.two.keep fun b h1 _=>xab (by omega) _,xi3 hS.row q n,hS.bel.setCell (by show w.heap.size+2<=w.heap.size+1+1;omega) _,by rw[xbg];exact hS.size,hS.len⟩
       have rq1:(wq.setCell ⟨w.heap.size+1+1,q,none⟩ (.int .i64 n)).heap[w.heap.size+1]?=some (.cells #[Value.int .i64 0,Value.int .i64 0] 61 (0,0)):=(xab (by omega) _).trans rq
       have mq1:(wq.setCell ⟨w.heap.size+1+1,q,none⟩ (.int .i64 n)).heap[w.heap.size]?=_:=(xab (by omega) _).trans mq
       have mc1:(wq.setCell ⟨w.heap.size+1+1,q,none⟩ (.int .i64 n)).cell? ⟨w.heap.size,4,none⟩=some (.slice (some ⟨bc,oc,none⟩) m.code.length cap):=by rw[qzB mq1];rfl
       have hbq1:Below w.heap.size w (wq.setCell ⟨w.heap.size+1+1,q,none⟩ (.int .i64 n)):=hbq.setCell (by show w.heap.size<=w.heap.size+1+1;omega) _
       have j0:=qzA hbq1 e0;have j1:=qzA hbq1 e1;have j2:=qzA hbq1 e2;have j3:=qzA hbq1 e3;have j4:=qzA hbq1 e4;go_wp2_with fail;clear mc hcell hfree rc rf rq mq hS j0 j1 j2 j3 j4 hbq mc1;generalize (wq.setCell ⟨w.heap.size+1+1,q,none⟩ (.int .i64 n))=w5 at *;refine (xlr x q _ hsx (xaE (by omega) (by omega))).mono ?_
       rintro e w6 ⟨an,kn,rfl,hIn,hb6⟩;have hrg:=xdI hsx q;generalize hNX:xaN x q=NX at *;obtain⟨need,more,next⟩:=NX;simp only at hrg hIn;have hbq6:=xah hbq1 hb6;have mq6:=xac mq1 hb6;have mc6:w6.cell? ⟨w.heap.size,4,none⟩=some (.slice (some ⟨bc,oc,none⟩) m.code.length cap):=by rw[qzB mq6];rfl
       have rq6:=xac rq1 hb6;obtain⟨rc,rf⟩:(∀ q,w6.cell? ⟨w.heap.size+1,q,none⟩=(#[Value.int .i64 0,.int .i64 0]:Array Value)[q]?)/\(∀ o,w6.frozen? ⟨w.heap.size+1,o,none⟩=false):=⟨fun q=>by rw[qzB rq6],fun o=>by unfold World.frozen?;simp[rq6]⟩
       have op6:=qzA hbq6 e0;have hS6:=hS1.later hb6;have hsum:IntKind.i64.wrap (n+more)=n+more:=xaE (by omega) (by omega)
       have hst1:Hid (xcM m.code h ((q:Int),n)=if n<need\/x.op=17/\n≠1 then .inl (8,(q:Int)) else if 12<n+more then .inl (4,(q:Int)) else .inr (h.set q n,next.map fun t=>(t,n+more))):=by
        show _=_
        rw[hst0.out,if_neg (by omega)]
       clear hst0
       by_cases c1:n<need
       ·have hst:xcM m.code h ((q:Int),n)=.inl (8,(q:Int)):=by rw[hst1.out,if_pos (Or.inl c1)]
        have HF:=hfault.out _ _ hst (HBS.out w6 (.int .i64 8) (.int .i64 q) hbq6);go_wp2;refine bodyPost_ret (v:=.tuple #[.slice none 0 0,FV (8,(q:Int))]) ?_ rfl HF
        simp[results,Tryz.results38,go_sem,rc,rf]
       ·have c1':decide (n<need)=false:=by simpa using c1
        by_cases c2:x.op=17/\n≠1
        ·have hst:xcM m.code h ((q:Int),n)=.inl (8,(q:Int)):=by rw[hst1.out,if_pos (Or.inr c2)]
         have HF:=hfault.out _ _ hst (HBS.out w6 (.int .i64 8) (.int .i64 q) hbq6);have c3:=c2.1;have c4:(n != 1)=true:=by simpa using c2.2
         clear c2;go_wp2;refine bodyPost_ret (v:=.tuple #[.slice none 0 0,FV (8,(q:Int))]) ?_ rfl HF
         simp[results,Tryz.results38,go_sem,rc,rf]
        ·have HNO:Hid (¬ (n<need\/x.op=17/\n≠1)):=fun h=>h.elim c1 c2
         have hsel:(x.op == 17)=false\/(x.op == 17)=true/\(n != 1)=false:=by
          by_cases h17:x.op=17
          ·right;refine⟨by simpa using h17,?_⟩
           have:n=1:=Classical.byContradiction fun h=>c2 ⟨h17,h⟩
           simp[this]
          ·left;simpa using h17
         clear c2;obtain⟨go,hgo⟩:∃ go,go=g':=⟨_,rfl⟩
         go_upto_region 19 with (fail)
         go_cut [101] (fun s101 wx=>s101=.bool false/\w6=wx)
         case first=>
          rcases hsel with hsel | ⟨hsel,hsel2⟩
          all_goals
           go_wp2_with fail
           go_meet
           case rel=>exact⟨rfl,rfl⟩
         case rest=>
          obtain⟨rfl,rfl⟩:=hcut
          by_cases c5:12<n+more
          ·have hst:xcM m.code h ((q:Int),n)=.inl (4,(q:Int)):=by rw[hst1.out,if_neg HNO.out,if_pos c5]
           have HF:=hfault.out _ _ hst (HBS.out w6 (.int .i64 4) (.int .i64 q) hbq6);go_wp2;refine bodyPost_ret (v:=.tuple #[.slice none 0 0,FV (4,(q:Int))]) ?_ rfl HF
           simp[results,Tryz.results38,go_sem,rc,rf]
          ·have c5':decide (12<n+more)=false:=by simpa using c5
           have hst:xcM m.code h ((q:Int),n)=.inr (h.set q n,next.map fun t=>(t,n+more)):=by rw[hst1.out,if_neg HNO.out,if_neg c5]
           obtain⟨k1,k2⟩:=HI.out.step hs hst;have k4:=HL.out;have hzm:=xmf HLEN.out (k:=k+1) (by omega) next (n+more)
           have K3:Hid (xhD m.code g' (h.set q n) (((A++next).zip (B++next.map fun _=>n+more)).drop (k+1))=xaH m.code):=by
            show _=_
            rw[← HR.out,hzm]
            conv=>rhs;unfold xhD;rw[hst]
           have K1:Hid (HInv m.code (h.set q n) (((A++next).zip (B++next.map fun _=>n+more)).drop (k+1))):=by show HInv _ _ _;rw[hzm];exact k1
           have K2:Hid (xec (h.set q n) (((A++next).zip (B++next.map fun _=>n+more)).drop (k+1))<=g'):=by show _<=_;rw[hzm];omega
           have hAl:A.length<=2*m.code.length+1:=by
            have e1:((A.zip B).drop (k+1)).length+(k+1)=A.length:=by have:=HLEN.out;simp;omega
            simp[xec] at k4
            simp at e1
            have:=HLEN.out
            omega
           clear hst k1 k2 k4 hzm HR HI HL hfault;obtain⟨an',kn',en,hin1,hin2,hin3,hin4⟩:=id hIn;simp only[Value.slice.injEq] at en;obtain⟨rfl,-,rfl⟩:=en;unfold maxLen at hin2;have hgA:=hS1.two.a.lt;have hgB:=hS1.two.b.lt;have hs56:=hb6.size;have hnl:next.length<=2:=hrg.2.2.2.2.2;go_wp2
           go_loopg [6,7,112] next.length (fun g2 va vb ii wi=>∃ (i gA kA gB kB:Nat),i+g2=next.length/\ii=.int .i64 i/\va=.slice (some ⟨gA,0,none⟩) (A++next.take i).length kA/\vb=.slice (some ⟨gB,0,none⟩) (B++(next.take i).map fun _=>n+more).length kB/\RefH w W0 m.code gA kA gB kB (A++next.take i) (B++(next.take i).map fun _=>n+more) (h.set q n) wi/\Keeps (fun b=>w5.heap.size<=b/\b<w6.heap.size) w6 wi/\(gA<w5.heap.size\/w6.heap.size<=gA)/\(gB<w5.heap.size\/w6.heap.size<=gB)/\w6.heap.size<=wi.heap.size)
           case atStart=>exact⟨0,gA,kA,gB,kB,by omega,rfl,by simp,by simp,by simpa using hS6,Keeps.refl _ _,Or.inl hgA.2,Or.inl hgB.2,qzC _⟩
           case round=>
            obtain⟨i,gA,kA,gB,kB,hik,rfl,rfl,rfl,hSi,hKi,hgAi,hgBi,hszi⟩:=hrel
            by_cases hil:i<next.length
            ·have hi1:(i:Int)<(next.length:Int):=by omega
             have hi0:(0:Int)<=(i:Int):=by omega
             obtain⟨b2,o2,rfl,hb2,hv⟩:=hin4 i next[i] (List.getElem?_eq_getElem hil);have hv':w6.cell? ⟨b2,o2+i*1+0,none⟩=some (.int .i64 next[i]):=hv;simp only[Nat.mul_one,Nat.add_zero] at hv';have hv2:=hKi _ _ _ ⟨hb2,World.block_lt_of_cell? _ _ hv'⟩ hv';have ht:next.take (i+1)=next.take i++[next[i]]:=by rw[List.take_add_one,List.getElem?_eq_getElem hil];rfl
             have HT:Hid (next.take (i+1)=next.take i++[next[i]]):=ht;have hti:(next.take i).length=i:=by rw[List.length_take];omega
             have hlA:(A++next.take i).length<=2*m.code.length+3:=by rw[List.length_append,hti];omega
             have hlB:(B++(next.take i).map fun _=>n+more).length<=2*m.code.length+3:=by rw[List.length_append,List.length_map,hti];have:=HLEN.out;omega
             have hsz:=hSi.size;generalize next[i]=t at *;have HAi:Hid (A++next.take (i+1)=(A++next.take i)++[t]):=by show _=_;rw[HT.out,List.append_assoc]
             have HBi:Hid (B++(next.take (i+1)).map (fun _=>n+more)=(B++(next.take i).map fun _=>n+more)++[n+more]):=by show _=_;rw[HT.out,List.map_append,List.append_assoc];rfl
             generalize A++next.take i=A1 at *;generalize (B++(next.take i).map fun _=>n+more)=B1 at *
             clear hv ht hti hv';have hTi:=hSi.two;have hkk:∀ {W W':World} {g:Nat},(g<w5.heap.size\/w6.heap.size<=g)->w6.heap.size<=W.heap.size->(∀ b,b<W.heap.size->b≠g->W'.heap[b]?=W.heap[b]?)->Keeps (fun b=>w5.heap.size<=b/\b<w6.heap.size) W W':=fun hg hs' h=>Keeps.of_block fun b hb hl=>h b hl (by omega)
             go_wp2_with (first
              | (at_builtin;refine wpList_append_lies _ rfl (.tmp 116) (.tmp 118) 87 rfl (w.heap.size+3) 3 i0 _ 1 8 Tryz.underlying87 hi hz0 hz1 hz2 rfl (by decide) (.slice (some ⟨gA,0,none⟩) A1.length kA) A1.length (xcg A1) rfl (hTi.a.alloc _) ⟨_,0,none⟩ 1 1 [.int .i64 t] rfl rfl (fun j u hu=>(by rw[Addr.add_lit,Nat.zero_add];exact (xaa wr _ 3 _ rfl j).trans (by simpa using hu))) (by intro u hu;simp at hu;subst hu;rfl) (by omega) (by unfold maxLen;omega) (by omega) (by simp;omega) _ rfl ?_;intro g2 c2 w2 hown2 hgr2 hor2 hlt2;have hT2:=hTi.first hown2 hgr2 hor2 hsz;have hs2:=hT2.2.size)
              | (at_builtin;refine wpList_append_lies _ rfl (.tmp 120) (.tmp 124) 87 rfl (w.heap.size+3) 3 i0 _ 1 8 Tryz.underlying87 hi hz0 hz1 hz2 rfl (by decide) (.slice (some ⟨gB,0,none⟩) B1.length kB) B1.length (xcg B1) rfl (hT2.1.b.alloc _) ⟨_,0,none⟩ 1 1 [.int .i64 (n+more)] rfl rfl (fun j u hu=>(by rw[Addr.add_lit,Nat.zero_add];exact (xaa w2 _ 3 _ rfl j).trans (by simpa using hu))) (by intro u hu;simp at hu;subst hu;rfl) (by omega) (by unfold maxLen;omega) (by omega) (by simp;omega) _ rfl ?_;intro g3 c3 w3 hown3 hgr3 hor3 hlt3;have hT3:=hT2.1.swap.first hown3 hgr3 hor3 (by omega)))
             have hs3:=hT3.2.size;have hne:=hTi.ne
             simp[Value.ownBlock] at hor2 hor3
             have hK2:Keeps (fun b=>w5.heap.size<=b/\b<w6.heap.size) wr w2:=hkk hgAi hszi fun b hb hb'=>(hgr2.block b (by simp;omega) (by simp[Value.ownBlock];omega)).trans ((xaj _ _).block b hb)
             have hK3:Keeps (fun b=>w5.heap.size<=b/\b<w6.heap.size) w2 w3:=hkk hgBi (by omega) fun b hb hb'=>(hgr3.block b (by simp;omega) (by simp[Value.ownBlock];omega)).trans ((xaj _ _).block b hb)
             have hl1:=hSi.len
             go_roundg (gk-1)
             case measure=>omega
             case rel=>
              refine⟨i+1,g2,c2,g3,c3,by omega,by go_num,by rw[HAi.out];simp,by rw[HBi.out];simp,?_,(hKi.trans hK2).trans hK3,by omega,by omega,by omega⟩
              rw[HAi.out,HBi.out]
              exact⟨hT3.1.swap,((hT2.2.trans hT3.2).block _ (by omega)).trans hSi.row,hSi.bel.trans ((hT2.2.trans hT3.2).mono (by omega)),by omega,by simp;exact hl1⟩
            ·obtain rfl:i=next.length:=by omega
             have hi1:(next.length:Int)<=(next.length:Int):=by omega
             rw[List.take_length] at hSi;simp only[List.take_length];go_wp2
             go_roundg go
             case measure=>omega
             case rel=>exact⟨gA,kA,gB,kB,A++next,B++next.map fun _=>n+more,h.set q n,k+1,by simp,by simp,by go_num,by omega,by simp;omega,by rw[hgo];exact K3.out,K1.out,by rw[hgo];exact K2.out,hSi⟩
    ·have hkeq:k=A.length:=by omega
     have HE:Hid (xaH m.code=(h,(0,0))):=by
      show _=_
      rw[← hR,List.drop_eq_nil_of_le (by have:=HLEN.out;simp;omega)]
      cases gk<;>rfl
     clear hR hI hL;have hk1:(A.length:Int)<=(k:Int):=by omega
     have hbq:Below w.heap.size w wr:=hbW.trans (hS.bel.mono (by omega))
     have rq:wr.heap[w.heap.size+1]?=some (.cells #[Value.int .i64 0,Value.int .i64 0] 61 (0,0)):=(hS.bel.block _ (by omega)).trans rb
     obtain⟨rc,rf⟩:(∀ q,wr.cell? ⟨w.heap.size+1,q,none⟩=(#[Value.int .i64 0,.int .i64 0]:Array Value)[q]?)/\(∀ o,wr.frozen? ⟨w.heap.size+1,o,none⟩=false):=⟨fun q=>by rw[qzB rq],fun o=>by unfold World.frozen?;simp[rq]⟩
     clear hkeq;go_wp2;refine bodyPost_ret (v:=.tuple #[.slice (some ⟨w.heap.size+1+1,0,none⟩) m.code.length m.code.length,FV (0,0)]) ?_ rfl ⟨?_,Or.inl ⟨by rw[HE.out],_,rfl,?_,by omega⟩⟩
     ·simp[results,Tryz.results38,go_sem,rc,rf]
     ·exact ((hbq.setCell (by simp) _).setCell (by simp) _)
     ·rw[xab (by omega),xab (by omega),HE.out]
      exact hS.row
end Go.Proofs.YtapbeiccodnniaaGreat
