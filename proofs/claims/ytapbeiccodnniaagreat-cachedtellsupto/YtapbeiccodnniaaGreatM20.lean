/- A part. -/
import Derived.Test.YtapbeiccodnniaaGreatM19
namespace Go.Proofs.YtapbeiccodnniaaGreat
open Go.ChangeShapes Go.WideShapes Go.ChangeAt Go.RowKit
set_option linter.unusedSimpArgs false
set_option linter.unusedVariables false
set_option maxHeartbeats 8000000
set_option maxRecDepth 8000
structure LkP (X:QW)(b:Nat)(cv hv:Value)(T:Nat->Nat)(w:World)(st:Unit)(n:Nat):Prop where
 tag:T b=0
 lt:b<w.heap.size
 w0:w.cell? ⟨b,0,none⟩=some cv
 w1:w.cell? ⟨b,1,none⟩=some hv
 w2:w.cell? ⟨b,2,none⟩=some (.int .i64 X.ez)
 cls:xai (Fx T w) w cv X.cz
 heap:xaC (Fx T w) w hv X.heap
theorem LkP.keep {X:QW}{b:Nat}{cv hv:Value}{T T':Nat->Nat}{w w':World}{st:Unit}{n:Nat}{S:Nat->Prop}(h:LkP X b cv hv T w st n)(e:Ext T T' w)(k:Kp S T w w')(h0:¬ S 0):LkP X b cv hv T' w' st n:=
 ⟨by rw[e _ h.lt];exact h.tag,qzE h.lt k.size,k.cell h.w0 (by rw[h.tag];exact h0),k.cell h.w1 (by rw[h.tag];exact h0),k.cell h.w2 (by rw[h.tag];exact h0),h.cls.fx xaz e k h0,h.heap.fx xaD e k h0⟩
section
variable {σ:Type} {p:Mp σ} {L:(Nat->Nat)->World->σ->Nat->Prop} {LF QF:Nat} {lc qc:Array Value} {T:Nat->Nat} {w:World} {mb:Nat} {m:Mc σ} {hv:Value} {g:Nat} {s:Nat->Nat} {K:Nat}
structure FsR (w:World)(mb:Nat)(v0 v1:Value)(ep:Int)(s:QV)(name:ByteArray)(av:Value)(w':World):Prop where
 bel:Below w.heap.size w w'
 m0:w'.cell? ⟨mb,0,none⟩=some v0
 m1:w'.cell? ⟨mb,1,none⟩=some v1
 m2:w'.cell? ⟨mb,2,none⟩=some (.int .i64 ep)
 c0:w'.cell? ⟨w.heap.size,0,none⟩=some (.int .i64 s.k)
 c1:w'.cell? ⟨w.heap.size,1,none⟩=some (.int .i64 s.n)
 c2:w'.cell? ⟨w.heap.size,2,none⟩=some (.string name)
 c3:w'.cell? ⟨w.heap.size,3,none⟩=some av
 r0:w'.cell? ⟨w.heap.size+1,0,none⟩=some (.int .i64 0)
 r1:w'.cell? ⟨w.heap.size+1,1,none⟩=some (.int .i64 0)
 rf:∀ o,w'.frozen? ⟨w.heap.size+1,o,none⟩=false
 sz:w.heap.size+2<=w'.heap.size
theorem FsR.later {w:World}{mb:Nat}{v0 v1:Value}{ep:Int}{s:QV}{name:ByteArray}{av:Value}{w' w'':World}(h:FsR w mb v0 v1 ep s name av w')(hb:Below w'.heap.size w' w''):FsR w mb v0 v1 ep s name av w'':=
 ⟨xah h.bel hb,qzA hb h.m0,qzA hb h.m1,qzA hb h.m2,qzA hb h.c0,qzA hb h.c1,qzA hb h.c2,qzA hb h.c3,qzA hb h.r0,qzA hb h.r1,fun o=>(hb.frozen (p:=⟨w.heap.size+1,o,none⟩) (by have:=h.sz;simp only;omega)).trans (h.rf o),qzD h.sz hb.size⟩
theorem FsR.al {w:World}{mb:Nat}{v0 v1:Value}{ep:Int}{s:QV}{name:ByteArray}{av:Value}{w':World}(h:FsR w mb v0 v1 ep s name av w'):w'.cell? ⟨mb,0,none⟩=some v0/\w'.cell? ⟨mb,1,none⟩=some v1/\w'.cell? ⟨mb,2,none⟩=some (.int .i64 ep)/\w'.cell? ⟨w.heap.size,0,none⟩=some (.int .i64 s.k)/\w'.cell? ⟨w.heap.size,1,none⟩=some (.int .i64 s.n)/\w'.cell? ⟨w.heap.size,2,none⟩=some (.string name):=⟨h.m0,h.m1,h.m2,h.c0,h.c1,h.c2⟩
theorem xki (hC:Cx p L LF lc QF qc)(h:MacAt p T w mb m 0 hv g s)(hL:L T w m.st (p.E.fuel-m.sz_).toNat)(hI:MIn p.E m)(sf:QV)(name:ByteArray)(args:List QV)(av:Value)(hSe:xas m.heap.length sf=0)(hAr:VsOk m.heap.length args)(hA:xaB (Fx T w) w av args)(hK5:5<=K) :
  Calls Tryz.prog 44 #[.pointer (some ⟨mb,0,none⟩),ClV sf name av] w fun e w'=>EnPost p L T w mb 0 K (xa1 p.E 20 m (xaw p.E.cz (xar m.heap sf) name).1 (xaw p.E.cz (xar m.heap sf) name).2 sf args) e w':=by
 have hX:=xao T w 4;have hT4:∀ b,w.heap.size<=b->xau T w 4 b=4:=fun b hb=>xav hb
 have hb1:Below w.heap.size w ((w.alloc (.cells #[.int .i64 sf.k,.int .i64 sf.n,.string name,av] 30)).alloc (.cells #[.int .i64 0,.int .i64 0] 27)).drew:=(xca w _ _).drew;have hM0:=(h.tagged0 4).later hb1;have hA0:=(xdR hA xaK 4).fx xaK (.refl _ w) (Kp.of_below (S:=fun _=>False) hb1) id
 have hL0:=hC.keep (hC.keep hL hX (Kp.refl (fun _=>False) _ _) id id) (.refl _ _) (Kp.of_below (S:=fun _=>False) hb1) id id
 have hFs:FsR w mb p.cv hv p.ep sf name av ((w.alloc (.cells #[.int .i64 sf.k,.int .i64 sf.n,.string name,av] 30)).alloc (.cells #[.int .i64 0,.int .i64 0] 27)).drew:=by
  refine⟨hb1,hM0.c0,hM0.c1,hM0.c2,qzA (xaj _ _).drew (xaa w #[.int .i64 sf.k,.int .i64 sf.n,.string name,av] 30 _ rfl 0),qzA (xaj _ _).drew (xaa w #[.int .i64 sf.k,.int .i64 sf.n,.string name,av] 30 _ rfl 1),qzA (xaj _ _).drew (xaa w #[.int .i64 sf.k,.int .i64 sf.n,.string name,av] 30 _ rfl 2),qzA (xaj _ _).drew (xaa w #[.int .i64 sf.k,.int .i64 sf.n,.string name,av] 30 _ rfl 3),xaa _ _ _ _ (by simp) 0,xaa _ _ _ _ (by simp) 1,fun o=>xam (cur:=#[.int .i64 0,.int .i64 0]) (t:=27) ?_ o,by simp⟩
  rw[xe7];have:=qzJ (w.alloc (.cells #[.int .i64 sf.k,.int .i64 sf.n,.string name,av] 30)) (.cells #[.int .i64 0,.int .i64 0] 27)
  simpa using this
 have hlm:=xaf h.box;obtain⟨aa,ca,rfl,-⟩:=id hA;clear h hA hL;generalize xau T w 4=T1 at *;have t1:T1 (w.heap.size+1)=4:=hT4 _ (by omega)
 go_enter Tryz.func44,Tryz.ntmps44
 go_upto_region 1 with (fail)
 generalize ((w.alloc (.cells #[.int .i64 sf.k,.int .i64 sf.n,.string name,.slice aa args.length ca] 30)).alloc (.cells #[.int .i64 0,.int .i64 0] 27))=W at *;have hcl:=hM0.cls.mono (Q:=fun _=>True) xaz fun _ _=>trivial
 have hhp:=hM0.heap.heap.mono (Q:=fun _=>True) xaD fun _ _=>trivial
 obtain⟨ch,rfl,-⟩:=hM0.heap.form;obtain⟨ac,cc,hcv,-⟩:=id hcl;have hcls:∀ w':World,Below W.drew.heap.size W.drew w'->Calls Tryz.prog 60 #[.slice (some ⟨g,0,none⟩) m.heap.length ch,VV sf] w' fun e w''=>e=.returned (.int .i64 (xar m.heap sf))/\Below w'.heap.size w' w'':=fun w' hb=>xel m.heap _ sf w' (hhp.later xaD hb)
 have hfin:∀ w':World,Below W.drew.heap.size W.drew w'->Calls Tryz.prog 59 #[WV p.cv (.slice (some ⟨g,0,none⟩) m.heap.length ch) p.ep,.int .i64 (xar m.heap sf),.string name] w' fun e w''=>e=.returned (.tuple #[.int .i64 (xaw p.E.cz (xar m.heap sf) name).1,.int .i64 (xaw p.E.cz (xar m.heap sf) name).2])/\Below w'.heap.size w' w'':=fun w' hb=>xeI ⟨p.E.cz,m.heap,p.ep⟩ (xar m.heap sf) name p.cv _ w' (hcl.later xaz hb) (hhp.later xaD hb)
 have HM0:=hid hM0;rw[hcv] at hfin hFs;clear hcv hcl hhp hM0;obtain⟨c0,hc0⟩:∃ c0,c0=xar m.heap sf:=⟨_,rfl⟩;rw[← hc0] at hcls hfin;obtain⟨r1,r2,hr⟩:∃ r1 r2,xaw p.E.cz c0 name=(r1,r2):=⟨_,_,rfl⟩;rw[hr] at hfin;have HRO:Hid (xa1 p.E 20 m (xaw p.E.cz (xar m.heap sf) name).1 (xaw p.E.cz (xar m.heap sf) name).2 sf args=xa1 p.E 20 m r1 r2 sf args):=by show _=_;rw[← hc0,hr]
 clear hc0 hr;have hS0:=hFs.al;have tokA:True:=trivial
 go_region_held3 (fun w'=>w'.cell? ⟨mb,0,none⟩=some (.slice ac p.E.cz.length cc)/\w'.cell? ⟨mb,1,none⟩=some (.slice (some ⟨g,0,none⟩) m.heap.length ch)/\w'.cell? ⟨mb,2,none⟩=some (.int .i64 p.ep)/\w'.cell? ⟨w.heap.size,0,none⟩=some (.int .i64 sf.k)/\w'.cell? ⟨w.heap.size,1,none⟩=some (.int .i64 sf.n)/\w'.cell? ⟨w.heap.size,2,none⟩=some (.string name))
  (first | with_reducible exact hS0 | with_reducible exact hS1 | with_reducible exact hS2)
  (first
   | (have _t:=tokA;go_at_call 60;refine (hcls _ (qzL _ _)).mono ?_;rintro e w3 ⟨rfl,hb3⟩;have hF3:=hFs.later hb3;have hS1:=hF3.al;clear tokA;have tokB:True:=trivial)
   | (have _t:=tokB;go_at_call 59;refine (hfin _ hb3).mono ?_;rintro e w4 ⟨rfl,hb4⟩;have hF4:=hF3.later hb4;have hS2:=hF4.al;have hb34:=xah hb3 hb4;clear tokB))
 have hM4:=HM0.out.later hb34;have hA4:=hA0.fx xaK (.refl _ _) (Kp.of_below (S:=fun _=>False) hb34) id
 have hL4:=hC.keep hL0 (.refl _ _) (Kp.of_below (S:=fun _=>False) hb34) id id
 have hent:=xg6 hC 20 (qzC _) K T1 w4 mb m _ _ _ r1 r2 sf args _ hK5 hM4 hL4 hI hSe hAr hA4;have HKW:=hid (Kp.of_below (S:=All K) (T:=T) hF4.bel);obtain⟨-,m0,m1,m2,c0',c1,c2,c3,r0,r1',rf,sz⟩:=id hF4;have H4:=hid hF4;clear hS0 hS1 hS2 hcls hfin hF3 hF4 hFs hb3 hb4 hb34 hM4 hA4 hL4;obtain⟨R,hR⟩:∃ R,xa1 p.E 20 m r1 r2 sf args=R:=⟨_,rfl⟩;rw[hR] at hent HRO;clear hR;go_wp2_with fail;refine hent.mono ?_;rintro e w6 ⟨rfl,⟨T6,hX6,⟨hv6,g6,s6,hM6⟩,hL6⟩,hK6⟩;have q0:=hK6.cell r0 (by rw[t1];unfold All;omega)
 have q1:=hK6.cell r1' (by rw[t1];unfold All;omega)
 have qf:∀ o,w6.frozen? ⟨w.heap.size+1,o,none⟩=false:=fun o=>xb6 hK6 (by omega) (by rw[t1];unfold All;omega) (rf o)
 have t6:T6 (w.heap.size+1)=4:=by rw[hX6 _ (by omega)];exact t1
 have HQ:=hid fun u0 u1=>EnPost.fin (r:=R) hC (hX.trans HKW.out.size hX6) (show MacAt p T6 w6 mb R.1 0 hv6 g6 s6 from hM6) hL6 (HKW.out.trans hX hK6) t6 u0 u1
 clear hent hM6 hL6 hK6 hX6 m0 m1 m2 c0' c1 c2 c3 r0 r1' rf;obtain⟨rm,v,er⟩:=R;go_wp2;rw[HRO.out];refine qzK (v:=.tuple #[VV v,.int .i64 er]) ?_ rfl (HQ.out _ _)
 simp[results,Tryz.results44,go_sem,q0,q1]
end
abbrev RnV (r:Ran):Value:=.agg #[.int .i64 r.v.k,.int .i64 r.v.n,.int .i64 r.err,.int .i64 r.sz_]
def WiPost {σ:Type}(L:(Nat->Nat)->World->σ->Nat->Prop)(T0:Nat->Nat)(w:World)(X:QW)(r:Ran × σ)(e:Ending)(w':World):Prop:=
 Kp (fun t=>t=3) T0 w w'/\∃ T',Ext T0 T' w/\L T' w' r.2 0/\∃ cv hv,e=.returned (.tuple #[WV cv hv X.ez,RnV r.1])/\xai (fun b=>w.heap.size<=b/\T' b≠3) w' cv X.cz/\xaC (fun b=>w.heap.size<=b/\T' b≠3) w' hv r.1.heap
structure WtR (w:World)(cv hv:Value)(ep:Int)(s:QV)(name:ByteArray)(av:Value)(w':World):Prop where
 w0:w'.cell? ⟨w.heap.size,0,none⟩=some cv
 w1:w'.cell? ⟨w.heap.size,1,none⟩=some hv
 w2:w'.cell? ⟨w.heap.size,2,none⟩=some (.int .i64 ep)
 c0:w'.cell? ⟨w.heap.size+1,0,none⟩=some (.int .i64 s.k)
 c1:w'.cell? ⟨w.heap.size+1,1,none⟩=some (.int .i64 s.n)
 c2:w'.cell? ⟨w.heap.size+1,2,none⟩=some (.string name)
 c3:w'.cell? ⟨w.heap.size+1,3,none⟩=some av
 a0:w'.cell? ⟨w.heap.size+2,0,none⟩=some (.slice none 0 0)
 a1:w'.cell? ⟨w.heap.size+2,1,none⟩=some (.slice none 0 0)
 a2:w'.cell? ⟨w.heap.size+2,2,none⟩=some (.int .i64 0)
 af:∀ o,w'.frozen? ⟨w.heap.size+2,o,none⟩=false
 b0:w'.cell? ⟨w.heap.size+3,0,none⟩=some (.int .i64 0)
 b1:w'.cell? ⟨w.heap.size+3,1,none⟩=some (.int .i64 0)
 b2:w'.cell? ⟨w.heap.size+3,2,none⟩=some (.int .i64 0)
 b3:w'.cell? ⟨w.heap.size+3,3,none⟩=some (.int .i64 0)
 bf:∀ o,w'.frozen? ⟨w.heap.size+3,o,none⟩=false
 sz:w.heap.size+4<=w'.heap.size
theorem WtR.kp {w:World}{cv hv:Value}{ep:Int}{s:QV}{name:ByteArray}{av:Value}{w' w'':World}{S:Nat->Prop}{T:Nat->Nat}(h:WtR w cv hv ep s name av w')(k:Kp S T w' w'')(hs:∀ i,i<4->¬ S (T (w.heap.size+i))):WtR w cv hv ep s name av w'':=
 have hz:=h.sz
 ⟨k.cell h.w0 (hs 0 (by omega)),k.cell h.w1 (hs 0 (by omega)),k.cell h.w2 (hs 0 (by omega)),k.cell h.c0 (hs 1 (by omega)),k.cell h.c1 (hs 1 (by omega)),k.cell h.c2 (hs 1 (by omega)),k.cell h.c3 (hs 1 (by omega)),k.cell h.a0 (hs 2 (by omega)),k.cell h.a1 (hs 2 (by omega)),k.cell h.a2 (hs 2 (by omega)),fun o=>xb6 k (by omega) (hs 2 (by omega)) (h.af o),k.cell h.b0 (hs 3 (by omega)),k.cell h.b1 (hs 3 (by omega)),k.cell h.b2 (hs 3 (by omega)),k.cell h.b3 (hs 3 (by omega)),fun o=>xb6 k (by omega) (hs 3 (by omega)) (h.bf o),qzD hz k.size⟩
theorem WtR.later {w:World}{cv hv:Value}{ep:Int}{s:QV}{name:ByteArray}{av:Value}{w' w'':World}(h:WtR w cv hv ep s name av w')(hb:Below w'.heap.size w' w''):WtR w cv hv ep s name av w'':=h.kp (T:=fun _=>0) (Kp.of_below (S:=fun _=>False) hb) fun _ _=>id
theorem xka (w:World)(cv hv:Value)(ep:Int)(s:QV)(name:ByteArray)(av:Value):WtR w cv hv ep s name av ((((w.alloc (.cells #[cv,hv,.int .i64 ep] 25)).alloc (.cells #[.int .i64 s.k,.int .i64 s.n,.string name,av] 30)).alloc (.cells #[.slice none 0 0,.slice none 0 0,.int .i64 0] 25)).alloc (.cells #[.int .i64 0,.int .i64 0,.int .i64 0,.int .i64 0] 37)):=by
 obtain⟨-,w0,w1,w2,c0,c1,c2,c3⟩:=xgc w cv hv ep s name av;have q:=xca ((w.alloc (.cells #[cv,hv,.int .i64 ep] 25)).alloc (.cells #[.int .i64 s.k,.int .i64 s.n,.string name,av] 30)) (.cells #[.slice none 0 0,.slice none 0 0,.int .i64 0] 25) (.cells #[.int .i64 0,.int .i64 0,.int .i64 0,.int .i64 0] 37);have e2:((w.alloc (.cells #[cv,hv,.int .i64 ep] 25)).alloc (.cells #[.int .i64 s.k,.int .i64 s.n,.string name,av] 30)).heap.size=w.heap.size+2:=by simp
 have e3:(((w.alloc (.cells #[cv,hv,.int .i64 ep] 25)).alloc (.cells #[.int .i64 s.k,.int .i64 s.n,.string name,av] 30)).alloc (.cells #[.slice none 0 0,.slice none 0 0,.int .i64 0] 25)).heap.size=w.heap.size+3:=by simp
 refine⟨qzA q w0,qzA q w1,qzA q w2,qzA q c0,qzA q c1,qzA q c2,qzA q c3,qzA (xaj _ _) (xaa _ _ _ _ e2 0),qzA (xaj _ _) (xaa _ _ _ _ e2 1),qzA (xaj _ _) (xaa _ _ _ _ e2 2),fun o=>((xaj _ _).frozen (p:=⟨w.heap.size+2,o,none⟩) (by rw[e3];simp)).trans (xam (cur:=#[.slice none 0 0,.slice none 0 0,.int .i64 0]) (t:=25) (xba _ _ _ e2) o),xaa _ _ _ _ e3 0,xaa _ _ _ _ e3 1,xaa _ _ _ _ e3 2,xaa _ _ _ _ e3 3,xam (cur:=#[.int .i64 0,.int .i64 0,.int .i64 0,.int .i64 0]) (t:=37) (xba _ _ _ e3),by simp⟩
theorem OwnC.rowIn {w:World}{B:Nat}{xs:List QC}{s:Nat->Nat}(h:OwnC w B xs s xs.length)(hby:xs.length*56<=140737488351232):xai (fun b=>B<=b/\b<s xs.length) w (.slice (some ⟨B,0,none⟩) xs.length xs.length) xs:=by
 have hB:=h.2.1;have h0n:=h.mono 0 xs.length (by omega) (qzC _)
 refine⟨_,_,rfl,qzC _,by unfold maxLen;omega,hby,fun i x hx=>⟨B,0,rfl,⟨qzC _,by omega⟩,?_⟩⟩
 have hi:=xae hx;have hn:=h.mono (i+1) xs.length (by omega) (qzC _)
 have hk:=h.2.2.2.2 i x hi hx;have hm:=h.mono 0 i (by omega) (by omega)
 obtain⟨g,hg,hlo,hM⟩:=hk.meths;obtain⟨h0,h1,h2,h3,-⟩:=hk;simp only[Nat.zero_add]
 exact⟨h0,h1,h2,h3,_,hg,hM.mono xbi fun b hb=>⟨by have:=hb.1;omega,by have:=hb.2;omega⟩⟩
theorem xma {P:Nat->Prop}(X:QW)(cv hv:Value)(w:World)(h1:xai P w cv X.cz)(h2:xaC P w hv X.heap):Calls Tryz.prog 42 #[WV cv hv X.ez] w fun e w'=>∃ g gh sh,e=.returned (WV (.slice (some ⟨g,0,none⟩) X.cz.length X.cz.length) (.slice (some ⟨gh,0,none⟩) X.heap.length X.heap.length) X.ez)/\xai (fun b=>w.heap.size<=b/\b<gh) w' (.slice (some ⟨g,0,none⟩) X.cz.length X.cz.length) X.cz/\HRow w' gh sh X.heap X.heap.length/\w.heap.size<=gh/\Below w.heap.size w w':=by
 obtain⟨a1,c1,e1,-,-,b1,-⟩:=id h1;refine (xn4 X cv hv w h1 h2).mono ?_;rintro e w' ⟨g,gh,s,rfl,hO,⟨sh,hR⟩,hs,hg,hb⟩;have hB:=hO.2.1;have h0n:=hO.mono 0 X.cz.length (by omega) (qzC _)
 exact⟨g,gh,sh,rfl,(hO.rowIn b1).mono xaz fun b hb=>⟨by have:=hb.1;omega,by have:=hb.2;omega⟩,hR,by omega,hb⟩
theorem HRow.isHeap {w:World}{g:Nat}{s:Nat->Nat}{xs:List QO}(h:HRow w g s xs xs.length)(hby:xs.length*32<=140737488351232):xaC (fun b=>g<=b) w (.slice (some ⟨g,0,none⟩) xs.length xs.length) xs:=by
 have hT:∀ b,g<=b->b<w.heap.size->(fun b=>if g<=b then 2 else 0) b=2:=fun b hb _=>by simp[hb]
 refine (h.heap hby hT).heap.mono xaD fun b hb=>?_
 have:=hb.2;simp only at this
 split at this
 ·assumption
 ·cases this
section
variable {σ:Type} {L:(Nat->Nat)->World->σ->Nat->Prop} {LF QF:Nat} {lc qc:Array Value}
structure Lok (L:(Nat->Nat)->World->σ->Nat->Prop):Prop where
 keep:∀ {T T':Nat->Nat} {w w':World} {st:σ} {n:Nat} {S:Nat->Prop},L T w st n->Ext T T' w->Kp S T w w'->¬ S 0->¬ S 3->L T' w' st n
 mono:∀ {T:Nat->Nat} {w:World} {st:σ} {n n':Nat},L T w st n->n'<=n->L T w st n'
theorem WiPost.fin (hCx:Lok L){w U:World}{X:QW}{r:Ran × σ}{cv hv:Value}{P:Nat->Prop}{T0 T1:Nat->Nat}{n:Nat}(hk:Kp (fun t=>t=3) T0 w U)(hE:Ext T0 T1 w)(hL:L T1 U r.2 n)(t2:T1 (w.heap.size+2)=4)(t3:T1 (w.heap.size+3)=4)(hC:xai P U cv X.cz)(hH:xaC P U hv r.1.heap)(h2:¬ P (w.heap.size+2))(h3:¬ P (w.heap.size+3))(hP:∀ x,P x->w.heap.size<=x/\T1 x≠3)(u0 u1 u2 v0 v1 v2 v3:Value) :
  WiPost L T0 w X r (.returned (.tuple #[WV cv hv X.ez,RnV r.1])) (((((((U.setCell ⟨w.heap.size+2,0,none⟩ u0).setCell ⟨w.heap.size+2,1,none⟩ u1).setCell ⟨w.heap.size+2,2,none⟩ u2).setCell ⟨w.heap.size+3,0,none⟩ v0).setCell ⟨w.heap.size+3,1,none⟩ v1).setCell ⟨w.heap.size+3,2,none⟩ v2).setCell ⟨w.heap.size+3,3,none⟩ v3):=by
 have k:Keeps P U (((((((U.setCell ⟨w.heap.size+2,0,none⟩ u0).setCell ⟨w.heap.size+2,1,none⟩ u1).setCell ⟨w.heap.size+2,2,none⟩ u2).setCell ⟨w.heap.size+3,0,none⟩ v0).setCell ⟨w.heap.size+3,1,none⟩ v1).setCell ⟨w.heap.size+3,2,none⟩ v2).setCell ⟨w.heap.size+3,3,none⟩ v3):=xaq (xaq (xaq (xaq (xaq (xaq (xaq (Keeps.refl _ _) h2 _) h2 _) h2 _) h3 _) h3 _) h3 _) h3 _;have hn2:¬ w.heap.size+2<w.heap.size:=by omega
 have hn3:¬ w.heap.size+3<w.heap.size:=by omega
 have k4:Kp (fun t=>t=4) T1 U (((((((U.setCell ⟨w.heap.size+2,0,none⟩ u0).setCell ⟨w.heap.size+2,1,none⟩ u1).setCell ⟨w.heap.size+2,2,none⟩ u2).setCell ⟨w.heap.size+3,0,none⟩ v0).setCell ⟨w.heap.size+3,1,none⟩ v1).setCell ⟨w.heap.size+3,2,none⟩ v2).setCell ⟨w.heap.size+3,3,none⟩ v3):=(((((((Kp.refl _ _ _).set (fun _=>t2) _ _).set (fun _=>t2) _ _).set (fun _=>t2) _ _).set (fun _=>t3) _ _).set (fun _=>t3) _ _).set (fun _=>t3) _ _).set (fun _=>t3) _ _
 refine⟨((((((hk.set (fun h=>absurd h hn2) _ _).set (fun h=>absurd h hn2) _ _).set (fun h=>absurd h hn2) _ _).set (fun h=>absurd h hn3) _ _).set (fun h=>absurd h hn3) _ _).set (fun h=>absurd h hn3) _ _).set (fun h=>absurd h hn3) _ _,T1,hE,hCx.mono (hCx.keep hL (.refl _ _) k4 (by omega) (by omega)) (Nat.zero_le _),cv,hv,rfl,hC.keep xaz k hP,hH.keep xaD k hP⟩
theorem WiPost.drew (hCx:Lok L){w w':World}{X:QW}{r:Ran × σ}{T0:Nat->Nat}{e:Ending}(h:WiPost L T0 w X r e w'):WiPost L T0 w X r e w'.drew:=by
 obtain⟨hb,T',hE,hL,cv,hv,rfl,h1,h2⟩:=h
 exact⟨hb.drew,T',hE,hCx.keep hL (.refl _ _) (Kp.refl (fun _=>False) _ _).drew id id,cv,hv,rfl,h1.later xaz (qzL _ _).drew,h2.later xaD (qzL _ _).drew⟩
end
theorem xdb (d:Nat)(t:TypeId)(k:Nat)(c:Array Value)(w:World){a b v}(h:Tryz.prog.underlying t=some (.func a b v)):(Op.equalIn (d+1) t (.func (.func k) #[] c) .nilFunc).run Tryz.prog w=.ok false w:=by
 simp[Op.equalIn,run_underlying h]
theorem xoW (k:Nat)(c:Array Value)(w:World):(binOp .eql 82 (.func (.func k) #[] c) .nilFunc).run Tryz.prog w=.ok (.bool false) w:=by
 simp only[binOp];have:(Op.equal 82 (.func (.func k) #[] c) .nilFunc).run Tryz.prog w=.ok false w:=xdb 9999 82 k c w Tryz.underlying82
 simp[this]
theorem xoN (k:Nat)(c:Array Value)(w:World):(binOp .eql 108 (.func (.func k) #[] c) .nilFunc).run Tryz.prog w=.ok (.bool false) w:=by
 simp only[binOp];have:(Op.equal 108 (.func (.func k) #[] c) .nilFunc).run Tryz.prog w=.ok false w:=xdb 9999 108 k c w Tryz.underlying108
 simp[this]
def xk8 (T0:Nat->Nat)(n gh mb:Nat):Nat->Nat:=fun x=>if x<n then T0 x else if x<n+4 then 4 else if x<gh then 0 else if x<mb then 2 else 1
structure EeR (w:World)(mb:Nat)(v0 v1:Value)(ep n:Int)(w':World):Prop where
 w0:w'.cell? ⟨w.heap.size,0,none⟩=some v0
 w1:w'.cell? ⟨w.heap.size,1,none⟩=some v1
 w2:w'.cell? ⟨w.heap.size,2,none⟩=some (.int .i64 ep)
 m4:w'.cell? ⟨mb,4,none⟩=some (.int .i64 n)
 lt:w.heap.size+4<=mb
theorem EeR.later {w:World}{mb:Nat}{v0 v1:Value}{ep n:Int}{w' w'':World}(h:EeR w mb v0 v1 ep n w')(hb:Below w'.heap.size w' w''):EeR w mb v0 v1 ep n w'':=⟨qzA hb h.w0,qzA hb h.w1,qzA hb h.w2,qzA hb h.m4,h.lt⟩
theorem EeR.set {w:World}{mb:Nat}{v0 v1:Value}{ep n:Int}{w':World}(h:EeR w mb v0 v1 ep n w'){b:Nat}(hb:b=w.heap.size+2\/b=w.heap.size+3)(o:Nat)(u:Value):EeR w mb v0 v1 ep n (w'.setCell ⟨b,o,none⟩ u):=
 have hl:=h.lt
 ⟨(qzI _ _ _ _ (by simp;omega)).trans h.w0,(qzI _ _ _ _ (by simp;omega)).trans h.w1,(qzI _ _ _ _ (by simp;omega)).trans h.w2,(qzI _ _ _ _ (by simp;omega)).trans h.m4,hl⟩
theorem EeR.al {w:World}{mb:Nat}{v0 v1:Value}{ep n:Int}{w':World}(h:EeR w mb v0 v1 ep n w'):w'.cell? ⟨w.heap.size,0,none⟩=some v0/\w'.cell? ⟨w.heap.size,1,none⟩=some v1/\w'.cell? ⟨w.heap.size,2,none⟩=some (.int .i64 ep)/\w'.cell? ⟨mb,4,none⟩=some (.int .i64 n):=⟨h.w0,h.w1,h.w2,h.m4⟩
theorem xme {σ:Type}{L:(Nat->Nat)->World->σ->Nat->Prop}{LF QF:Nat}{lc qc:Array Value}{T0:Nat->Nat}(X:QW)(hX:xaJ X=0)(E:Env σ)(st0:σ)(hEc:E.cz=X.cz)(s:QV)(name:ByteArray)(args:List QV)(cv hv av:Value)(w:World)(hTo:∀ x,x<w.heap.size->T0 x=0\/T0 x=3)(hC:xai (Fx T0 w) w cv X.cz)(hH:xaC (Fx T0 w) w hv X.heap)(hA:xaB (Fx T0 w) w av args)(hn:name.size<=140737488351232)(hLo:Lok L)(hL:L T0 w st0 (min E.fuel.toNat 400))(hCx:0<=E.fuel->E.fuel<=400->∀ cv',Cx (⟨E,cv',X.ez,.func (.func LF) #[] lc,.func (.func QF) #[] qc⟩:Mp σ) L LF lc QF qc) :
  Calls Tryz.prog 22 #[WV cv hv X.ez,ClV s name av,.int .i64 E.fuel,.func (.func LF) #[] lc,.func (.func QF) #[] qc] w fun e w'=>WiPost L T0 w X (xdh E X st0 s name args E.fuel) e w':=by
 obtain⟨fuel,hfuel⟩:∃ fuel,E.fuel=fuel:=⟨_,rfl⟩;rw[hfuel] at hL ⊢;have HFU:=hid hfuel;clear hfuel;have hR:=xka w cv hv X.ez s name av;have hbW:Below w.heap.size w ((((w.alloc (.cells #[cv,hv,.int .i64 X.ez] 25)).alloc (.cells #[.int .i64 s.k,.int .i64 s.n,.string name,av] 30)).alloc (.cells #[.slice none 0 0,.slice none 0 0,.int .i64 0] 25)).alloc (.cells #[.int .i64 0,.int .i64 0,.int .i64 0,.int .i64 0] 37)):=xah (xca _ _ _) (xca _ _ _);obtain⟨ac,cc,hcv,-,-,hby,-⟩:=id hC;obtain⟨ah,ch,hhv,-,-,hbyh,-⟩:=id hH;obtain⟨aa,ca,hav,-⟩:=id hA;subst hcv hhv hav;go_enter Tryz.func22,Tryz.ntmps22
 go_upto_region 1 with (fail)
 generalize ((((w.alloc (.cells #[.slice ac X.cz.length cc,.slice ah X.heap.length ch,.int .i64 X.ez] 25)).alloc (.cells #[.int .i64 s.k,.int .i64 s.n,.string name,.slice aa args.length ca] 30)).alloc (.cells #[.slice none 0 0,.slice none 0 0,.int .i64 0] 25)).alloc (.cells #[.int .i64 0,.int .i64 0,.int .i64 0,.int .i64 0] 37))=W at *;obtain⟨w0,w1,w2,c0,c1,c2,c3,-⟩:=id hR;have hwr:=xkq X s name args fuel (.slice ac X.cz.length cc) _ _ W ⟨_,_,_,rfl⟩ (hH.later xaD hbW) (hA.later xaK hbW) hn;have HPE:Hid (xdh E X st0 s name args fuel=if xap X s name args fuel≠0 then (⟨X.heap,xaU,xap X s name args fuel,0⟩,st0) else (xop X (xdf E X st0 s name args),(xdf E X st0 s name args).1.st)):=rfl
 have HWI:Hid (xap X s name args fuel=0->(0<=fuel/\fuel<=400)/\xas X.heap.length s=0/\VsOk X.heap.length args):=xcH;obtain⟨ws,hws⟩:∃ ws,xap X s name args fuel=ws:=⟨_,rfl⟩;rw[hws] at hwr HPE HWI;clear hws;go_wp2_with fail;refine hwr.mono ?_;rintro e w1' ⟨rfl,hbv⟩;have hR1:=hR.later hbv;have HB1:=hid (xah hbW hbv);clear w0 w1 w2 c0 c1 c2 c3 hwr hR;have hown:=fun w' (k:Kp (fun t=>t=3) T0 w w')=>xma X _ _ w' (hC.fx xaz (.refl _ _) k (by omega)) (hH.fx xaD (.refl _ _) k (by omega))
 obtain⟨w0,w1,w2,c0,c1,c2,c3,-⟩:=id hR1
 by_cases hz:ws=0
 ·have hz':(ws != 0)=false:=by simpa using hz
  rw[if_neg (by simpa using hz)] at HPE
  obtain⟨hfu,hsl,hvs⟩:=HWI.out hz;clear HWI hz;have hq1:=xoW;have hq2:=xoN;have hsf:∀ (w:World) (a:Addr) (k:Nat) (c:Array Value),(store a (.func (.func k) #[] c)).run Tryz.prog w=stored Tryz.prog w a (.func (.func k) #[] c) .plain:=fun w a k c=>run_store Tryz.prog w a _ _ rfl
  go_wp2_with fail;refine (hown _ (Kp.of_below HB1.out)).mono ?_;rintro e w2' ⟨g,gh,sh,rfl,hCo,hHo,hgh,hbo⟩;have hR2:=hR1.later hbo;have hsz:=hR1.sz;have HB2:=hid (xah HB1.out hbo);clear w0 w1 w2 c0 c1 c2 c3 hR1;have hbM:=xaj w2' (MB (⟨E,.slice (some ⟨g,0,none⟩) X.cz.length X.cz.length,X.ez,.func (.func LF) #[] lc,.func (.func QF) #[] qc⟩:Mp σ) (⟨X.heap,0,0,st0⟩:Mc σ) 0 (.slice (some ⟨gh,0,none⟩) X.heap.length X.heap.length));have hbw3:=xah HB2.out hbM;have hgl:gh<w2'.heap.size:=by obtain⟨cur,h1,-⟩:=hHo.row;exact xaf h1
  have hs2:=hbo.size;have TO:∀ x,x<w.heap.size->xk8 T0 w.heap.size gh w2'.heap.size x=T0 x:=fun x hx=>by unfold xk8;rw[if_pos hx]
  have T4:∀ i,i<4->xk8 T0 w.heap.size gh w2'.heap.size (w.heap.size+i)=4:=fun i hi=>by unfold xk8;rw[if_neg (by omega),if_pos (by omega)]
  have Tc:∀ x,w1'.heap.size<=x->x<gh->xk8 T0 w.heap.size gh w2'.heap.size x=0:=fun x h1 h2=>by unfold xk8;rw[if_neg (by omega),if_neg (by omega),if_pos h2]
  have Th:∀ x,gh<=x->x<w2'.heap.size->xk8 T0 w.heap.size gh w2'.heap.size x=2:=fun x h1 h2=>by unfold xk8;rw[if_neg (by omega),if_neg (by omega),if_neg (by omega),if_pos h2]
  have Tm:xk8 T0 w.heap.size gh w2'.heap.size w2'.heap.size=1:=by unfold xk8;rw[if_neg (by omega),if_neg (by omega),if_neg (by omega),if_neg (by omega)]
  generalize xk8 T0 w.heap.size gh w2'.heap.size=Tg at *
  have hM3:MacAt (⟨E,.slice (some ⟨g,0,none⟩) X.cz.length X.cz.length,X.ez,.func (.func LF) #[] lc,.func (.func QF) #[] qc⟩:Mp σ) Tg (w2'.alloc (MB (⟨E,.slice (some ⟨g,0,none⟩) X.cz.length X.cz.length,X.ez,.func (.func LF) #[] lc,.func (.func QF) #[] qc⟩:Mp σ) (⟨X.heap,0,0,st0⟩:Mc σ) 0 (.slice (some ⟨gh,0,none⟩) X.heap.length X.heap.length))) w2'.heap.size ⟨X.heap,0,0,st0⟩ 0 (.slice (some ⟨gh,0,none⟩) X.heap.length X.heap.length) gh sh:=
   ⟨qzJ w2' _,Tm,(hHo.heap hbyh Th).keep (.refl _ _) (Kp.of_below (S:=fun _=>False) hbM) id,by rw[hEc];exact hCo.keep xaz (Keeps.of_below hbM) fun x hx=>⟨by have:=hx.2;simp;omega,Tc x hx.1 hx.2⟩⟩
  have hXt:Ext T0 Tg w:=fun x hx=>TO x hx
  have hkT:Kp (fun _=>False) T0 w (w2'.alloc (MB (⟨E,.slice (some ⟨g,0,none⟩) X.cz.length X.cz.length,X.ez,.func (.func LF) #[] lc,.func (.func QF) #[] qc⟩:Mp σ) (⟨X.heap,0,0,st0⟩:Mc σ) 0 (.slice (some ⟨gh,0,none⟩) X.heap.length X.heap.length))):=Kp.of_below hbw3
  have hLk:L Tg (w2'.alloc (MB (⟨E,.slice (some ⟨g,0,none⟩) X.cz.length X.cz.length,X.ez,.func (.func LF) #[] lc,.func (.func QF) #[] qc⟩:Mp σ) (⟨X.heap,0,0,st0⟩:Mc σ) 0 (.slice (some ⟨gh,0,none⟩) X.heap.length X.heap.length))) st0 (E.fuel-0).toNat:=by
   rw[HFU.out,Int.sub_zero];rw[Nat.min_eq_left (by omega)] at hL
   exact hLo.keep hL hXt hkT id id
  have hA3:=hA.fx xaK hXt hkT id;have hMi:MIn (⟨E,.slice (some ⟨g,0,none⟩) X.cz.length X.cz.length,X.ez,.func (.func LF) #[] lc,.func (.func QF) #[] qc⟩:Mp σ).E (⟨X.heap,0,0,st0⟩:Mc σ):=⟨by show HOk E.cz X.heap;rw[hEc];exact xdz hX,⟨by simp,by show (0:Int)<=E.fuel;rw[HFU.out];exact hfu.1⟩,by simp⟩
  have hfst:=xki (hCx (by rw[HFU.out];exact hfu.1) (by rw[HFU.out];exact hfu.2) (.slice (some ⟨g,0,none⟩) X.cz.length X.cz.length)) hM3 hLk hMi s name args _ hsl hvs hA3 (K:=5) (qzC _)
  have hR3:=hR2.later hbM;have HBW3:=hid hbw3;have HCo3:Hid (xai (fun x=>w1'.heap.size<=x/\x<gh) (w2'.alloc (MB (⟨E,.slice (some ⟨g,0,none⟩) X.cz.length X.cz.length,X.ez,.func (.func LF) #[] lc,.func (.func QF) #[] qc⟩:Mp σ) (⟨X.heap,0,0,st0⟩:Mc σ) 0 (.slice (some ⟨gh,0,none⟩) X.heap.length X.heap.length))) (.slice (some ⟨g,0,none⟩) X.cz.length X.cz.length) X.cz):=hCo.later xaz hbM
  clear hM3 hLk hA3 hMi hCo hHo hR2 hbM hbo hL
  have HRE:Hid (xdf E X st0 s name args=xa1 (⟨E,.slice (some ⟨g,0,none⟩) X.cz.length X.cz.length,X.ez,.func (.func LF) #[] lc,.func (.func QF) #[] qc⟩:Mp σ).E 20 ⟨X.heap,0,0,st0⟩ (xaw (⟨E,.slice (some ⟨g,0,none⟩) X.cz.length X.cz.length,X.ez,.func (.func LF) #[] lc,.func (.func QF) #[] qc⟩:Mp σ).E.cz (xar X.heap s) name).1 (xaw (⟨E,.slice (some ⟨g,0,none⟩) X.cz.length X.cz.length,X.ez,.func (.func LF) #[] lc,.func (.func QF) #[] qc⟩:Mp σ).E.cz (xar X.heap s) name).2 s args):=by
   show xdf E X st0 s name args=xa1 E 20 ⟨X.heap,0,0,st0⟩ (xaw E.cz (xar X.heap s) name).1 (xaw E.cz (xar X.heap s) name).2 s args
   rw[hEc];rfl
  rw[← HRE.out] at hfst;clear HRE;obtain⟨R,hRn⟩:∃ R,xdf E X st0 s name args=R:=⟨_,rfl⟩;rw[hRn] at hfst HPE;clear hRn;obtain⟨rm,v,er⟩:=R;unfold xop at HPE;simp only at HPE;obtain⟨V3,hV3⟩:∃ V3,V3=w2'.alloc (MB (⟨E,.slice (some ⟨g,0,none⟩) X.cz.length X.cz.length,X.ez,.func (.func LF) #[] lc,.func (.func QF) #[] qc⟩:Mp σ) (⟨X.heap,0,0,st0⟩:Mc σ) 0 (.slice (some ⟨gh,0,none⟩) X.heap.length X.heap.length)):=⟨_,rfl⟩;rw[← hV3] at hfst hR3 HBW3 HCo3;have hV3':(w2'.alloc (.cells #[.slice (some ⟨g,0,none⟩) X.cz.length X.cz.length,.slice (some ⟨gh,0,none⟩) X.heap.length X.heap.length,.int .i64 X.ez,.int .i64 fuel,.int .i64 0,.int .i64 0,.int .i64 0,.func (.func LF) #[] lc,.func (.func QF) #[] qc] 112))=V3:=by rw[hV3,← HFU.out]
  have hz3:w2'.heap.size<V3.heap.size:=by rw[hV3];simp
  clear hV3
  go_upto_region 9 with (fail)
  try rw[hV3']
  clear hV3';obtain⟨w0,w1,w2,c0,c1,c2,c3,-⟩:=id hR3;have HMB:Hid (w2'.heap.size<V3.heap.size):=hz3;clear hz3 hq1 hq2 hsf;generalize w2'.heap.size=mb at *;go_wp2_with fail;refine hfst.mono ?_;rintro e w4 ⟨rfl,⟨T4',hX4,⟨hv4,g4,s4,hM4⟩,hL4⟩,hK4⟩;simp only at hM4 hL4;have hR4:=hR3.kp hK4 (fun i hi=>by rw[T4 i hi];unfold All;omega)
  have HB4:Hid (Kp (fun t=>t=3) T0 w w4):=⟨hK4.os.trans HBW3.out.os,hK4.tape.trans HBW3.out.tape,hK4.output.trans HBW3.out.output,qzD HBW3.out.size hK4.size,fun x hx hs=>(hK4.blk x (qzE hx HBW3.out.size) (by rw[TO x hx];have:=hTo x hx;unfold All;omega)).trans (HBW3.out.block x hx)⟩
  have HX4:Hid (Ext T0 T4' w):=hXt.trans HBW3.out.size hX4;have HL4:=hid hL4;have t42:T4' (w.heap.size+2)=4:=by rw[hX4 _ (by have:=hR3.sz;omega)];exact T4 2 (by omega)
  have t43:T4' (w.heap.size+3)=4:=by rw[hX4 _ (by have:=hR3.sz;omega)];exact T4 3 (by omega)
  have hlm4:mb<w4.heap.size:=xaf hM4.box;have hmw:w.heap.size+4<=mb:=by omega
  have HCo4:Hid (xai (fun x=>(T4' x=0\/T4' x=2)/\w.heap.size<=x) w4 (.slice (some ⟨g,0,none⟩) X.cz.length X.cz.length) X.cz):=HCo3.out.keep xaz (Keeps.of_block fun x hx hl=>hK4.blk x hl (by rw[Tc x hx.1 hx.2];unfold All;omega)) fun x hx=>⟨Or.inl (by rw[hX4 x (by have:=HMB.out;have:=hx.2;omega),Tc x hx.1 hx.2]),by have:=hx.1;omega⟩
  have TZ:Hid (∀ x,x<w.heap.size->T4' x=0\/T4' x=3):=fun x hx=>by rw[hX4 x (qzE hx HBW3.out.size),TO x hx];exact hTo x hx
  clear hfst w0 w1 w2 c0 c1 c2 c3 hR3 hX4 hK4 HCo3 TO T4 Tc Th Tm hL4 hXt hkT;have hbv4:=xaj w4 (.cells #[.int .i64 v.k,.int .i64 v.n] 27);have hM5:=hM4.later hbv4;have HCo5:=hid (HCo4.out.later xaz hbv4);have hR5:=hR4.later hbv4;have HB5:=hid (HB4.out.on hbv4);have HL5:=hid (hLo.keep HL4.out (.refl _ _) (Kp.of_below (S:=fun _=>False) hbv4) id id)
  have v0:(w4.alloc (.cells #[.int .i64 v.k,.int .i64 v.n] 27)).cell? ⟨w4.heap.size,0,none⟩=some (.int .i64 v.k):=xaa _ _ _ _ rfl 0;have v1:(w4.alloc (.cells #[.int .i64 v.k,.int .i64 v.n] 27)).cell? ⟨w4.heap.size,1,none⟩=some (.int .i64 v.n):=xaa _ _ _ _ rfl 1;have hsz4:=hR4.sz
  go_upto_region 10 with (fail)
  clear hM4 hR4 hbv4;generalize hv4z:w4.heap.size=vb at *;generalize (w4.alloc (.cells #[.int .i64 v.k,.int .i64 v.n] 27))=V5 at *
  by_cases he:er=0
  ·have he':(er != 0)=false:=by simpa using he
   rw[if_neg (by simpa using he)] at HPE
   clear he;obtain⟨cap4,hv4e,-⟩:=hM5.heap.form;have m0:V5.cell? ⟨mb,0,none⟩=some (.slice (some ⟨g,0,none⟩) X.cz.length X.cz.length):=hM5.c0;have m1:=hM5.c1;have m2:V5.cell? ⟨mb,2,none⟩=some (.int .i64 X.ez):=hM5.c2;have m4:=hM5.c4;rw[hv4e] at m1;have HQ:=hid fun u0 u1 u2 v0 v1 v2 v3=>WiPost.fin hLo (r:=(⟨rm.heap,v,0,rm.sz_⟩,rm.st)) (P:=fun x=>(T4' x=0\/T4' x=2)/\w.heap.size<=x) HB5.out HX4.out HL5.out t42 t43 HCo5.out (hM5.heap.heap.mono xaD fun x hx=>⟨Or.inr hx.2,Nat.le_of_not_lt fun hl=>by have:=TZ.out x hl;rw[hx.2] at this;omega⟩) (fun h=>by have:=h.1;rw[t42] at this;omega) (fun h=>by have:=h.1;rw[t43] at this;omega) (fun x hx=>⟨hx.2,by have:=hx.1;omega⟩) u0 u1 u2 v0 v1 v2 v3
   rw[hv4e] at HQ;obtain⟨w0,w1,w2,c0,c1,c2,c3,a0,a1,a2,af,b0,b1,b2,b3,bf,-⟩:=id hR5;have n1:¬ mb=w.heap.size+2:=by omega
   have n2:¬ mb=w.heap.size+3:=by omega
   have n3:¬ w.heap.size+2=mb:=by omega
   have n4:¬ w.heap.size+3=mb:=by omega
   have n5:¬ vb=w.heap.size+2:=by omega
   have n6:¬ vb=w.heap.size+3:=by omega
   have n7:¬ w.heap.size+2=vb:=by omega
   have n8:¬ w.heap.size+3=vb:=by omega
   clear hM5 hR5 hv4e;simp only[Nat.add_assoc,Nat.reduceAdd] at *;go_wp2
   go_region
   all_goals (
    go_wp2;rw[HPE.out];refine qzK (v:=.tuple #[WV (.slice (some ⟨g,0,none⟩) X.cz.length X.cz.length) (.slice (some ⟨g4,0,none⟩) rm.heap.length cap4) X.ez,RnV ⟨rm.heap,v,0,rm.sz_⟩]) ?_ rfl ((HQ.out _ _ _ _ _ _ _).drew hLo)
    simp[results,Tryz.results22,go_sem,a0,a1,a2,b0,b1,b2,b3])
  ·have he':(er != 0)=true:=by simpa using he
   rw[if_pos (by simpa using he)] at HPE
   clear he;have m4:=hM5.c4;have hownD:=hown V5.drew HB5.out.drew;have hS0:EeR w mb (.slice ac X.cz.length cc) (.slice ah X.heap.length ch) X.ez rm.sz_ V5.drew:=⟨hR5.w0,hR5.w1,hR5.w2,m4,by omega⟩
   have hRd:=hR5.later (qzL _ V5).drew;have HB6:=hid HB5.out.drew;have HX6:Hid (Ext T0 (xau T4' V5.drew 4) w):=HX4.out.trans HB6.out.size (xao T4' V5.drew 4);have HL6:Hid (L (xau T4' V5.drew 4) V5.drew rm.st _):=hLo.keep HL5.out (fun x hx=>xao T4' V5.drew 4 x hx) (Kp.refl (fun _=>False) _ _).drew id id
   have t62:xau T4' V5.drew 4 (w.heap.size+2)=4:=by rw[xao T4' V5.drew 4 _ (by have:=hRd.sz;omega)];exact t42
   have t63:xau T4' V5.drew 4 (w.heap.size+3)=4:=by rw[xao T4' V5.drew 4 _ (by have:=hRd.sz;omega)];exact t43
   have hV5z:w.heap.size+4<=V5.drew.heap.size:=hRd.sz;clear hM5 hR5 m4;simp only[Nat.add_assoc,Nat.reduceAdd] at *;go_wp2
   go_region_held3 (fun w'=>w'.cell? ⟨w.heap.size,0,none⟩=some (.slice ac X.cz.length cc)/\w'.cell? ⟨w.heap.size,1,none⟩=some (.slice ah X.heap.length ch)/\w'.cell? ⟨w.heap.size,2,none⟩=some (.int .i64 X.ez)/\w'.cell? ⟨mb,4,none⟩=some (.int .i64 rm.sz_))
    (first | with_reducible exact hS0.al | with_reducible exact hY.al | with_reducible exact (((hY.set (Or.inl rfl) _ _).set (Or.inl rfl) _ _).set (Or.inl rfl) _ _).al | with_reducible exact (((((((hY.set (Or.inl rfl) _ _).set (Or.inl rfl) _ _).set (Or.inl rfl) _ _).set (Or.inr rfl) _ _).set (Or.inr rfl) _ _).set (Or.inr rfl) _ _).set (Or.inr rfl) _ _).al | with_reducible exact ((((hY.set (Or.inr rfl) _ _).set (Or.inr rfl) _ _).set (Or.inr rfl) _ _).set (Or.inr rfl) _ _).al)
    (first | (go_at_call 42;refine hownD.mono ?_;rintro e w6 ⟨g',gh',sh',rfl,hCo,hHo,hgh',hbo⟩;have hY:=hS0.later hbo;have HQ:=hid (fun u0 u1 u2 v0 v1 v2 v3=>WiPost.fin hLo (r:=(⟨X.heap,xaU,er,rm.sz_⟩,rm.st)) (P:=fun b=>V5.drew.heap.size<=b) (HB6.out.on hbo) HX6.out (hLo.keep HL6.out (.refl _ _) (Kp.of_below (S:=fun _=>False) hbo) id id) t62 t63 (hCo.mono xaz fun b h=>h.1) ((hHo.isHeap hbyh).mono xaD fun b h=>qzD hgh' h) (by omega) (by omega) (fun x hx=>⟨by omega,by rw[xav hx];omega⟩) u0 u1 u2 v0 v1 v2 v3);obtain⟨-,-,-,-,-,-,-,a0,a1,a2,af,b0,b1,b2,b3,bf,-⟩:=id (hRd.later hbo);clear hCo hHo))
   all_goals (
    go_wp2;rw[HPE.out];refine qzK (v:=.tuple #[WV (.slice (some ⟨g',0,none⟩) X.cz.length X.cz.length) (.slice (some ⟨gh',0,none⟩) X.heap.length X.heap.length) X.ez,RnV ⟨X.heap,xaU,er,rm.sz_⟩]) ?_ rfl (HQ.out _ _ _ _ _ _ _)
    simp[results,Tryz.results22,go_sem,a0,a1,a2,b0,b1,b2,b3])
 ·have hz':(ws != 0)=true:=by simpa using hz
  rw[if_pos (by simpa using hz)] at HPE
  clear HWI hz;go_wp2_with fail;refine (hown _ (Kp.of_below HB1.out)).mono ?_;rintro e w2' ⟨g,gh,sh,rfl,hCo,hHo,hgh,hbo⟩;have hR2:=hR1.later hbo;have hsz:=hR1.sz;have HQ:=hid fun u0 u1 u2 v0 v1 v2 v3=>WiPost.fin hLo (r:=(⟨X.heap,xaU,ws,0⟩,st0)) (P:=fun b=>w1'.heap.size<=b) (Kp.of_below (xah HB1.out hbo)) (xao T0 w 4) (hLo.keep hL (xao T0 w 4) (Kp.of_below (S:=fun _=>False) (xah HB1.out hbo)) id id) (xav (by omega)) (xav (by omega)) (hCo.mono xaz fun b h=>h.1) ((hHo.isHeap hbyh).mono xaD fun b h=>by omega) (by omega) (by omega) (fun x hx=>⟨by omega,by rw[xav (by omega)];omega⟩) u0 u1 u2 v0 v1 v2 v3
  clear w0 w1 w2 c0 c1 c2 c3 hCo hHo hown;obtain⟨w0,w1,w2,c0,c1,c2,c3,a0,a1,a2,af,b0,b1,b2,b3,bf,-⟩:=id hR2;go_wp2;rw[HPE.out];refine qzK (v:=.tuple #[WV (.slice (some ⟨g,0,none⟩) X.cz.length X.cz.length) (.slice (some ⟨gh,0,none⟩) X.heap.length X.heap.length) X.ez,RnV ⟨X.heap,xaU,ws,0⟩]) ?_ rfl (HQ.out _ _ _ _ _ _ _)
  simp[results,Tryz.results22,go_sem,a0,a1,a2,b0,b1,b2,b3]
theorem xi7 {p:Rp}(hX:Rx p):∀ d:Nat,d<=20->xoY p d
 | 0,h=>xf2 hX 0 h fun d' e=>by omega
 | d+1,h=>xf2 hX (d+1) h fun d' e=>by
  obtain rfl:d=d':=by omega
  exact xlO hX (xi7 hX d (by omega))
def xci (X:QW)(s:QV)(name:ByteArray)(args:List QV)(fuel:Int):Mc RSt × QV × Int:=
 xa1 (xcK X fuel) 20 ⟨X.heap,0,0,[]⟩ (xaw X.cz (xar X.heap s) name).1 (xaw X.cz (xar X.heap s) name).2 s args
def xf5 (X:QW)(s:QV)(name:ByteArray)(args:List QV)(fuel:Int):RSt:=if xap X s name args fuel≠0 then [] else (xci X s name args fuel).1.st
theorem xoe (X:QW)(s:QV)(name:ByteArray)(args:List QV)(fuel:Int):(xlZ X s name args fuel).1.heap=(xci X s name args fuel).1.heap/\(xlZ X s name args fuel).1.sz_=(xci X s name args fuel).1.sz_/\(xlZ X s name args fuel).2=(xci X s name args fuel).2:=by
 have h:=xfi (Rel:=fun (_:RSt) (_:Unit)=>True) (SOk:=fun _ _=>True) (E:=xcK X fuel) (E':=xcJ X fuel) ⟨rfl,rfl,rfl,fun _ _ _ _ _ _ _=>⟨rfl,trivial⟩,fun _ _ _ _ _ _ _ _=>trivial,fun _ _ _ _ _ _ _ _ _=>trivial⟩ 20 ⟨X.heap,0,0,[]⟩ ⟨X.heap,0,0,()⟩ (xaw X.cz (xar X.heap s) name).1 (xaw X.cz (xar X.heap s) name).2 s args ⟨rfl,rfl,rfl,trivial⟩
 exact⟨h.1.heap,h.1.sz_,h.2⟩
theorem xp6 {α:Type}{E:Lay α}{sz bytes:Nat}{P:Nat->Prop}{w:World}{v:Value}{xs:List α}(h:IsRow E sz bytes P w v xs)(hE:∀ f x,E P w f x->E (fun b=>P b/\b<w.heap.size) w f x/\∃ u,f 0=some u):IsRow E sz bytes (fun b=>P b/\b<w.heap.size) w v xs:=by
 obtain⟨ad,cap,h1,h2,h3,h4,h5⟩:=h;refine⟨ad,cap,h1,h2,h3,h4,fun i x hx=>?_⟩
 obtain⟨b,o,e1,e2,e3⟩:=h5 i x hx;obtain⟨k1,u,k2⟩:=hE _ _ e3
 exact⟨b,o,e1,⟨e2,World.block_lt_of_cell? w _ k2⟩,k1⟩
theorem xrj {P:Nat->Prop}{w:World}{v:Value}{xs:List QI}(h:xa5 P w v xs):xa5 (fun b=>P b/\b<w.heap.size) w v xs:=xp6 h fun f x hx=>⟨hx,_,hx.1⟩
theorem xqP {P:Nat->Prop}{w:World}{v:Value}{xs:List QV}(h:xaB P w v xs):xaB (fun b=>P b/\b<w.heap.size) w v xs:=xp6 h fun f x hx=>⟨hx,_,hx.1⟩
theorem xq4 {P:Nat->Prop}{w:World}{v:Value}{xs:List QM}(h:xbd P w v xs):xbd (fun b=>P b/\b<w.heap.size) w v xs:=xp6 h fun f x hx=>by
 obtain⟨h0,h1,h2,h3,h4,c,h5,h6⟩:=hx
 exact⟨⟨h0,h1,h2,h3,h4,c,h5,xrj h6⟩,_,h0⟩
theorem xpr {P:Nat->Prop}{w:World}{v:Value}{xs:List QC}(h:xai P w v xs):xai (fun b=>P b/\b<w.heap.size) w v xs:=xp6 h fun f x hx=>by
 obtain⟨h0,h1,h2,h3,c,h5,h6⟩:=hx
 exact⟨⟨h0,h1,h2,h3,c,h5,xq4 h6⟩,_,h0⟩
theorem xpK {P:Nat->Prop}{w:World}{v:Value}{xs:List QO}(h:xaC P w v xs):xaC (fun b=>P b/\b<w.heap.size) w v xs:=xp6 h fun f x hx=>by
 obtain⟨h0,c,h5,h6⟩:=hx
 exact⟨⟨h0,c,h5,xqP h6⟩,_,h0⟩
def RuPost (z:Nat)(X:QW)(fuel:Int)(cv0:Value)(w:World)(r:Ran)(st:RSt)(e:Ending)(w':World):Prop:=
 Below w.heap.size w w'/\∃ cv hv T m deep err hv' sv ov,e=.returned (.tuple #[WV cv hv X.ez,RnV r,.pointer (some ⟨w.heap.size+4,0,none⟩)])/\xai (fun b=>b≠z) w' cv X.cz/\xaC (fun b=>b≠z) w' hv r.heap/\RMac ⟨X,fuel,cv0⟩ T w' (w.heap.size+4) m deep err hv' sv ov/\m.st=st/\T z=4
theorem xkX {U:World}{b o b':Nat}{v u0 u1 u2:Value}(h:U.cell? ⟨b,o,none⟩=some v)(hne:b≠b'):(((U.setCell ⟨b',0,none⟩ u0).setCell ⟨b',1,none⟩ u1).setCell ⟨b',2,none⟩ u2).cell? ⟨b,o,none⟩=some v:=
 (qzI _ _ _ _ (by simp;omega)).trans ((qzI _ _ _ _ (by simp;omega)).trans ((qzI _ _ _ _ (by simp;omega)).trans h))
theorem RuPost.fin {z:Nat}{X:QW}{fuel:Int}{cv0:Value}{w V:World}{r:Ran}{st:RSt}{cv hv hv' sv ov:Value}{P:Nat->Prop}{T:Nat->Nat}{m:Mc RSt}{deep err:Int}(hb:Below w.heap.size w V)(hC:xai P V cv X.cz)(hH:xaC P V hv r.heap)(hPz:∀ b,P b->b≠z)(h2:¬ P (w.heap.size+2))(h3:¬ P (w.heap.size+3))(hM:RMac ⟨X,fuel,cv0⟩ T V (w.heap.size+4) m deep err hv' sv ov)(hst:m.st=st)(t2:T (w.heap.size+2)=4)(t3:T (w.heap.size+3)=4)(tz:T z=4)(u0 u1 u2 v0 v1 v2 v3:Value) :
  RuPost z X fuel cv0 w r st (.returned (.tuple #[WV cv hv X.ez,RnV r,.pointer (some ⟨w.heap.size+4,0,none⟩)])) (((((((V.setCell ⟨w.heap.size+2,0,none⟩ u0).setCell ⟨w.heap.size+2,1,none⟩ u1).setCell ⟨w.heap.size+2,2,none⟩ u2).setCell ⟨w.heap.size+3,0,none⟩ v0).setCell ⟨w.heap.size+3,1,none⟩ v1).setCell ⟨w.heap.size+3,2,none⟩ v2).setCell ⟨w.heap.size+3,3,none⟩ v3):=by
 have k:Keeps P V (((((((V.setCell ⟨w.heap.size+2,0,none⟩ u0).setCell ⟨w.heap.size+2,1,none⟩ u1).setCell ⟨w.heap.size+2,2,none⟩ u2).setCell ⟨w.heap.size+3,0,none⟩ v0).setCell ⟨w.heap.size+3,1,none⟩ v1).setCell ⟨w.heap.size+3,2,none⟩ v2).setCell ⟨w.heap.size+3,3,none⟩ v3):=xaq (xaq (xaq (xaq (xaq (xaq (xaq (Keeps.refl _ _) h2 _) h2 _) h2 _) h3 _) h3 _) h3 _) h3 _;have k4:Kp (fun t=>t=4) T V (((((((V.setCell ⟨w.heap.size+2,0,none⟩ u0).setCell ⟨w.heap.size+2,1,none⟩ u1).setCell ⟨w.heap.size+2,2,none⟩ u2).setCell ⟨w.heap.size+3,0,none⟩ v0).setCell ⟨w.heap.size+3,1,none⟩ v1).setCell ⟨w.heap.size+3,2,none⟩ v2).setCell ⟨w.heap.size+3,3,none⟩ v3):=(((((((Kp.refl _ _ _).set (fun _=>t2) _ _).set (fun _=>t2) _ _).set (fun _=>t2) _ _).set (fun _=>t3) _ _).set (fun _=>t3) _ _).set (fun _=>t3) _ _).set (fun _=>t3) _ _
 refine⟨((((((hb.setCell (by simp) _).setCell (by simp) _).setCell (by simp) _).setCell (by simp) _).setCell (by simp) _).setCell (by simp) _).setCell (by simp) _,cv,hv,T,m,deep,err,hv',sv,ov,rfl,hC.keep xaz k hPz,hH.keep xaD k hPz,hM.keep (.refl _ _) k4 (by omega) (by omega) (by omega) (by omega),hst,tz⟩
theorem RuPost.drew {z:Nat}{X:QW}{fuel:Int}{cv0:Value}{w w':World}{r:Ran}{st:RSt}{e:Ending}(h:RuPost z X fuel cv0 w r st e w'):RuPost z X fuel cv0 w r st e w'.drew:=by
 obtain⟨hb,cv,hv,T,m,deep,err,hv',sv,ov,h1,h2,h3,h4,h5⟩:=h
 exact⟨hb.drew,cv,hv,T,m,deep,err,hv',sv,ov,h1,h2.later xaz (qzL _ _).drew,h3.later xaD (qzL _ _).drew,h4.later (qzL _ _).drew,h5⟩
def xlv (z n:Nat):Nat->Nat:=fun x=>if x<n then (if x=z then 4 else 0) else if x=n+4 then 1 else 4
theorem xgA {z n x:Nat}(h:x<n)(hz:x≠z):xlv z n x=0:=by simp[xlv,h,hz]
theorem xqI {z n:Nat}(h:z<n):xlv z n z=4:=by simp[xlv,h]
theorem xre {z n x:Nat}(h:x<n):xlv z n x=0\/xlv z n x=4:=by unfold xlv;rw[if_pos h];split<;>simp
theorem xnl (z n:Nat):xlv z n (n+4)=1:=by unfold xlv;rw[if_neg (by omega),if_pos rfl]
theorem xnI {z n x:Nat}(h:n<=x)(h4:x≠n+4):xlv z n x=4:=by simp[xlv,h4];omega
theorem xjs {z:Nat}{X:QW}{fuel:Int}{cv hv:Value}{w W:World}(hC:xai (fun b=>b≠z) w cv X.cz)(hH:xaC (fun b=>b≠z) w hv X.heap)(hb:Below w.heap.size w W)(hbox:W.heap[w.heap.size+4]?=some (.cells #[cv,hv,.int .i64 X.ez,.int .i64 fuel,.int .i64 0,.int .i64 0,.int .i64 0,.int .i64 0,.slice none 0 0,.slice none 0 0] 89 (0,0))):RMac ⟨X,fuel,cv⟩ (xlv z w.heap.size) W (w.heap.size+4) ⟨X.heap,0,0,[]⟩ 0 0 hv (.slice none 0 0) (.slice none 0 0):=by
 have hs:=hb.size;refine⟨hbox,xnl _ _,((xpr hC).later xaz hb).mono xaz fun b hb=>⟨by omega,xgA hb.2 hb.1⟩,((xpK hH).later xaD hb).mono xaD fun b hb=>⟨by omega,xgA hb.2 hb.1⟩,⟨rfl,Or.inl ⟨rfl,rfl⟩⟩,fun g hg=>(by cases hg),⟨rfl,Or.inl ⟨rfl,rfl⟩⟩,fun g hg=>(by cases hg)⟩
theorem xms (z:Nat)(X:QW)(hX:xaJ X=0)(s:QV)(name:ByteArray)(args:List QV)(fuel:Int)(cv hv av:Value)(w:World)(hzz:z<w.heap.size)(hC:xai (fun b=>b≠z) w cv X.cz)(hH:xaC (fun b=>b≠z) w hv X.heap)(hA:xaB (fun b=>b≠z) w av args)(hn:name.size<=140737488351232) :
  Calls Tryz.prog 13 #[WV cv hv X.ez,ClV s name av,.int .i64 fuel] w fun e w'=>RuPost z X fuel cv w (xcI X s name args fuel) (xf5 X s name args fuel) e w':=by
 obtain⟨ac,cc,rfl,-,-,hby,-⟩:=id hC;obtain⟨ah,ch,rfl,-,-,hbyh,-⟩:=id hH;obtain⟨aa,ca,rfl,-⟩:=id hA;have hR0:=(xka w (.slice ac X.cz.length cc) (.slice ah X.heap.length ch) X.ez s name (.slice aa args.length ca)).later (xaj _ (.cells #[.slice ac X.cz.length cc,.slice ah X.heap.length ch,.int .i64 X.ez,.int .i64 fuel,.int .i64 0,.int .i64 0,.int .i64 0,.int .i64 0,.slice none 0 0,.slice none 0 0] 89));have hB0:Below w.heap.size w (((((w.alloc (.cells #[.slice ac X.cz.length cc,.slice ah X.heap.length ch,.int .i64 X.ez] 25)).alloc (.cells #[.int .i64 s.k,.int .i64 s.n,.string name,.slice aa args.length ca] 30)).alloc (.cells #[.slice none 0 0,.slice none 0 0,.int .i64 0] 25)).alloc (.cells #[.int .i64 0,.int .i64 0,.int .i64 0,.int .i64 0] 37)).alloc (.cells #[.slice ac X.cz.length cc,.slice ah X.heap.length ch,.int .i64 X.ez,.int .i64 fuel,.int .i64 0,.int .i64 0,.int .i64 0,.int .i64 0,.slice none 0 0,.slice none 0 0] 89)):=xah (xah (xca _ _ _) (xca _ _ _)) (xaj _ _)
 have hbx0:(((((w.alloc (.cells #[.slice ac X.cz.length cc,.slice ah X.heap.length ch,.int .i64 X.ez] 25)).alloc (.cells #[.int .i64 s.k,.int .i64 s.n,.string name,.slice aa args.length ca] 30)).alloc (.cells #[.slice none 0 0,.slice none 0 0,.int .i64 0] 25)).alloc (.cells #[.int .i64 0,.int .i64 0,.int .i64 0,.int .i64 0] 37)).alloc (.cells #[.slice ac X.cz.length cc,.slice ah X.heap.length ch,.int .i64 X.ez,.int .i64 fuel,.int .i64 0,.int .i64 0,.int .i64 0,.int .i64 0,.slice none 0 0,.slice none 0 0] 89)).heap[w.heap.size+4]?=some (.cells #[.slice ac X.cz.length cc,.slice ah X.heap.length ch,.int .i64 X.ez,.int .i64 fuel,.int .i64 0,.int .i64 0,.int .i64 0,.int .i64 0,.slice none 0 0,.slice none 0 0] 89 (0,0)):=by
  have:=qzJ ((((w.alloc (.cells #[.slice ac X.cz.length cc,.slice ah X.heap.length ch,.int .i64 X.ez] 25)).alloc (.cells #[.int .i64 s.k,.int .i64 s.n,.string name,.slice aa args.length ca] 30)).alloc (.cells #[.slice none 0 0,.slice none 0 0,.int .i64 0] 25)).alloc (.cells #[.int .i64 0,.int .i64 0,.int .i64 0,.int .i64 0] 37)) (.cells #[.slice ac X.cz.length cc,.slice ah X.heap.length ch,.int .i64 X.ez,.int .i64 fuel,.int .i64 0,.int .i64 0,.int .i64 0,.int .i64 0,.slice none 0 0,.slice none 0 0] 89)
  simpa using this
 go_enter Tryz.func13,Tryz.ntmps13
 go_upto_region 2 with (fail)
 simp only[Nat.add_assoc,Nat.reduceAdd] at *;generalize (((((w.alloc (.cells #[.slice ac X.cz.length cc,.slice ah X.heap.length ch,.int .i64 X.ez] 25)).alloc (.cells #[.int .i64 s.k,.int .i64 s.n,.string name,.slice aa args.length ca] 30)).alloc (.cells #[.slice none 0 0,.slice none 0 0,.int .i64 0] 25)).alloc (.cells #[.int .i64 0,.int .i64 0,.int .i64 0,.int .i64 0] 37)).alloc (.cells #[.slice ac X.cz.length cc,.slice ah X.heap.length ch,.int .i64 X.ez,.int .i64 fuel,.int .i64 0,.int .i64 0,.int .i64 0,.int .i64 0,.slice none 0 0,.slice none 0 0] 89))=W at *;obtain⟨n0,n1,n2,m0,m1,m2,m3⟩:=And.intro hR0.w0 (And.intro hR0.w1 (And.intro hR0.w2 (And.intro hR0.c0 (And.intro hR0.c1 (And.intro hR0.c2 hR0.c3)))))
 go_wp2_with fail;refine (xfy X s name args fuel _ _ _ W ⟨_,_,_,rfl⟩ (hH.later xaD hB0) (hA.later xaK hB0) hn).mono ?_;rintro e w1 ⟨rfl,hb1⟩;have hR1:=hR0.later hb1;have hB1:=xah hB0 hb1;have hM1:=(xjs hC hH hB0 hbx0).later hb1;clear n0 n1 n2 m0 m1 m2 m3 hR0 hB0 hbx0 hb1;have t0:∀ i,i<4->xlv z w.heap.size (w.heap.size+i)=4:=fun i hi=>xnI (by omega) (by omega)
 by_cases hw:xap X s name args fuel=0
 ·have HPl:Hid (xcI X s name args fuel=if (xci X s name args fuel).2.2≠0 then ⟨X.heap,xaU,(xci X s name args fuel).2.2,(xci X s name args fuel).1.sz_⟩ else ⟨(xci X s name args fuel).1.heap,(xci X s name args fuel).2.1,0,(xci X s name args fuel).1.sz_⟩):=by
   show _=_
   obtain⟨q1,q2,q3⟩:=xoe X s name args fuel;unfold xcI;rw[if_neg (by simpa using hw),q1,q2,q3]
  have HSt:Hid (xf5 X s name args fuel=(xci X s name args fuel).1.st):=by show _=_;unfold xf5;rw[if_neg (by simpa using hw)]
  obtain⟨hfu,hws,hwa⟩:=xcH hw;have hRx:Rx ⟨X,fuel,.slice ac X.cz.length cc⟩:=⟨hX,hfu⟩
  have HMi:Hid (MIn (Rp.E ⟨X,fuel,.slice ac X.cz.length cc⟩) ⟨X.heap,0,0,[]⟩):=by
   have he:=xdz hX
   exact⟨he,⟨Int.le_refl _,hfu.1⟩,⟨Int.le_refl _,by show (0:Int)<=300;omega⟩⟩
  have HX:=hid (And.intro hRx (And.intro hws hwa));rw[hw];clear hw hws hwa hfu
  go_upto_region 5 with (fail)
  have hSl:∀ w',Below w1.heap.size w1 w'->w'.cell? ⟨w.heap.size,0,none⟩=some (.slice ac X.cz.length cc)/\w'.cell? ⟨w.heap.size,1,none⟩=some (.slice ah X.heap.length ch)/\w'.cell? ⟨w.heap.size,2,none⟩=some (.int .i64 X.ez)/\w'.cell? ⟨w.heap.size+1,0,none⟩=some (.int .i64 s.k)/\w'.cell? ⟨w.heap.size+1,1,none⟩=some (.int .i64 s.n)/\w'.cell? ⟨w.heap.size+1,2,none⟩=some (.string name):=fun w' hb=>by
   have h:=hR1.later hb
   exact⟨h.w0,h.w1,h.w2,h.c0,h.c1,h.c2⟩
  have hS0:=hSl _ (qzL _ w1).drew;refine xaY (S:=fun w'=>w'.cell? ⟨w.heap.size,0,none⟩=some (.slice ac X.cz.length cc)/\w'.cell? ⟨w.heap.size,1,none⟩=some (.slice ah X.heap.length ch)/\w'.cell? ⟨w.heap.size,2,none⟩=some (.int .i64 X.ez)/\w'.cell? ⟨w.heap.size+1,0,none⟩=some (.int .i64 s.k)/\w'.cell? ⟨w.heap.size+1,1,none⟩=some (.int .i64 s.n)/\w'.cell? ⟨w.heap.size+1,2,none⟩=some (.string name)) [] (by kernel_rfl) ?_
  refine tj 0 (⟨some 29,.load 25 (.tmp 3),25,_,_,none⟩) (WV (.slice ac X.cz.length cc) (.slice ah X.heap.length ch) X.ez) (hS0) ?_ ?_
  ·rintro w⟨q0,q1,q2,q3,q4,q5⟩;go_simp
  try simp only[Act.put,qzF,qzG,qzH]
  refine tj 1 (⟨some 30,.fieldAddr 25 (.tmp 3) 1,0,_,_,none⟩) (.pointer (some ⟨w.heap.size,1,none⟩)) (hS0) ?_ ?_
  ·rintro w⟨q0,q1,q2,q3,q4,q5⟩;go_simp
  try simp only[Act.put,qzF,qzG,qzH]
  refine tj 2 (⟨some 31,.load 23 (.tmp 30),23,_,_,none⟩) (.slice ah X.heap.length ch) (hS0) ?_ ?_
  ·rintro w⟨q0,q1,q2,q3,q4,q5⟩;go_simp
  try simp only[Act.put,qzF,qzG,qzH]
  refine tj 3 (⟨some 32,.fieldAddr 30 (.tmp 4) 0,0,_,_,none⟩) (.pointer (some ⟨w.heap.size+1,0,none⟩)) (hS0) ?_ ?_
  ·rintro w⟨q0,q1,q2,q3,q4,q5⟩;go_simp
  try simp only[Act.put,qzF,qzG,qzH]
  refine tj 4 (⟨some 33,.load 27 (.tmp 32),27,_,_,none⟩) (VV s) (hS0) ?_ ?_
  ·rintro w⟨q0,q1,q2,q3,q4,q5⟩;go_simp
  try simp only[Act.put,qzF,qzG,qzH]
  refine tj 6 (⟨some 35,.fieldAddr 30 (.tmp 4) 1,0,_,_,none⟩) (.pointer (some ⟨w.heap.size+1,2,none⟩)) (hS0) ?_ ?_
  ·rintro w⟨q0,q1,q2,q3,q4,q5⟩;go_simp
  try simp only[Act.put,qzF,qzG,qzH]
  refine tj 7 (⟨some 36,.load 9 (.tmp 35),9,_,_,none⟩) (.string name) (hS0) ?_ ?_
  ·rintro w⟨q0,q1,q2,q3,q4,q5⟩;go_simp
  try simp only[Act.put,qzF,qzG,qzH]
  refine xag (rs:=[5]) (by kernel_rfl) (by simp) ?_
  intro i hi;simp only[List.mem_cons,List.not_mem_nil,or_false] at hi;subst hi;refine xa6 (o:=⟨some 34,.call ⟨.value (.func 34),#[.tmp 31,.tmp 33],#[23,27]⟩,3,_,_,none⟩) rfl (fun K' hK=>?_)
  refine xbv rfl 34 (.func 34) #[.tmp 31,.tmp 33] _ rfl #[] rfl #[.slice ah X.heap.length ch,VV s] (by simp[Act.eval,Act.put]) (cf23 _ _) ?_
  refine (show Calls Tryz.prog 34 #[.slice ah X.heap.length ch,VV s] w1.drew _ from (xf1 X.heap _ s w1.drew (hH.later xaD (xah hB1 (qzL _ w1).drew))).mono ?_)
  rintro e w2 ⟨rfl,hb2⟩;refine⟨_,rfl,?_⟩;have hb12:Below w1.heap.size w1 w2:=xah (qzL _ w1).drew hb2;refine hK _ _ (fun _=>?_) ?_
  ·exact hSl _ hb12
  clear hK K'
  try simp only[Act.put,qzF,qzG,qzH]
  refine xag (rs:=[8]) (by kernel_rfl) (by simp) ?_
  intro i hi;simp only[List.mem_cons,List.not_mem_nil,or_false] at hi;subst hi;refine xa6 (o:=⟨some 37,.call ⟨.value (.func 19),#[.tmp 29,.tmp 34,.tmp 36],#[25,3,9]⟩,73,_,_,none⟩) rfl (fun K' hK=>?_)
  refine xbv rfl 19 (.func 19) #[.tmp 29,.tmp 34,.tmp 36] _ rfl #[] rfl #[WV (.slice ac X.cz.length cc) (.slice ah X.heap.length ch) X.ez,.int .i64 (xar X.heap s),.string name] (by simp[Act.eval,Act.put]) (cf22 _ _) ?_
  refine (show Calls Tryz.prog 19 #[WV (.slice ac X.cz.length cc) (.slice ah X.heap.length ch) X.ez,.int .i64 (xar X.heap s),.string name] w2 _ from (xhs X (xar X.heap s) name _ _ w2 (hC.later xaz (xah hB1 hb12)) (hH.later xaD (xah hB1 hb12))).mono ?_)
  rintro e w3 ⟨rfl,hb3⟩;refine⟨_,rfl,?_⟩;have hb13:Below w1.heap.size w1 w3:=xah hb12 hb3;obtain⟨fc,fj,hf⟩:∃ fc fj,xaw X.cz (xar X.heap s) name=(fc,fj):=⟨_,_,rfl⟩;rw[hf];refine hK _ _ (fun _=>?_) ?_
  ·exact hSl _ hb13
  clear hK K'
  try simp only[Act.put,qzF,qzG,qzH]
  refine tj 9 (⟨some 28,.move (.tmp 37),73,_,_,none⟩) (.tuple #[.int .i64 fc,.int .i64 fj]) (hSl _ hb13) ?_ ?_
  ·rintro w⟨q0,q1,q2,q3,q4,q5⟩;go_simp
  try simp only[Act.put,qzF,qzG,qzH]
  refine tj 10 (⟨some 38,.extract (.tmp 28) 0,3,_,_,none⟩) (.int .i64 fc) (hSl _ hb13) ?_ ?_
  ·rintro w⟨q0,q1,q2,q3,q4,q5⟩;go_simp
  try simp only[Act.put,qzF,qzG,qzH]
  refine tj 11 (⟨some 39,.extract (.tmp 28) 1,3,_,_,none⟩) (.int .i64 fj) (hSl _ hb13) ?_ ?_
  ·rintro w⟨q0,q1,q2,q3,q4,q5⟩;go_simp
  try simp only[Act.put,qzF,qzG,qzH]
  refine tj 12 (⟨some 11,.assign (.tmp 38),3,_,_,none⟩) (.int .i64 fc) (hSl _ hb13) ?_ ?_
  ·rintro w⟨q0,q1,q2,q3,q4,q5⟩;go_simp
  try simp only[Act.put,qzF,qzG,qzH]
  refine tj 13 (⟨some 12,.assign (.tmp 39),3,_,_,none⟩) (.int .i64 fj) (hSl _ hb13) ?_ ?_
  ·rintro w⟨q0,q1,q2,q3,q4,q5⟩;go_simp
  try simp only[Act.put,qzF,qzG,qzH]
  refine xa0 (by kernel_rfl) ?_ _
  try simp only[Act.put,qzF,qzG,qzH]
  replace hR1:=hR1.later hb13;replace hM1:=hM1.later hb13;replace hB1:=xah hB1 hb13;have HRu:Hid (xci X s name args fuel=xa1 (Rp.E ⟨X,fuel,.slice ac X.cz.length cc⟩) 20 ⟨X.heap,0,0,[]⟩ fc fj s args):=by show _=_;unfold xci;rw[hf]
  have hfm:0<=fj->∃ mt,xaO X.cz fc fj=some mt:=fun h=>by have:=xgO (xs:=X.cz) (k:=xar X.heap s) (name:=name) (by rw[hf];exact h);rw[hf] at this;exact this
  have HFn:Hid (¬ 0<=fj->xci X s name args fuel=(⟨X.heap,0,0,[]⟩,xaU,10)):=fun h=>by
   unfold xci;have h2:¬ 0<=(xaw (Rp.X ⟨X,fuel,.slice ac X.cz.length cc⟩).cz (xar X.heap s) (QI.mk 0 0 0 0 name).name).2:=by show ¬ 0<=(xaw X.cz (xar X.heap s) name).2;rw[hf];exact h
   exact xiF (p:=⟨X,fuel,.slice ac X.cz.length cc⟩) (x:=QI.mk 0 0 0 0 name) (d:=20) h2
  have HA:=hid (hA.later xaK hB1);clear hb12 hb13 hb2 hb3 hSl hS0 hf
  by_cases hj:0<=fj
  ·obtain⟨mt,hmt⟩:=hfm hj;have hj':¬ (fj<0):=by omega
   have HMt:=hid hmt;clear hfm HFn hmt hj;obtain⟨r,hr⟩:∃ r,xci X s name args fuel=r:=⟨_,rfl⟩;rw[hr] at HPl HSt HRu;have hAF:xaB (Fx (xlv z w.heap.size) w3) w3 (.slice aa args.length ca) args:=((xqP hA).later xaK hB1).mono xaK fun b hb=>⟨by have:=hB1.size;have:=hb.2;omega,xgA hb.2 hb.1⟩
   obtain⟨n0,n1,n2,m0,m1,m2,m3⟩:=And.intro hR1.w0 (And.intro hR1.w1 (And.intro hR1.w2 (And.intro hR1.c0 (And.intro hR1.c1 (And.intro hR1.c2 hR1.c3)))));go_wp2_with fail;refine (show Calls Tryz.prog 35 #[.pointer (some ⟨w.heap.size+4,0,none⟩),.int .i64 fc,.int .i64 fj,VV s,.slice aa args.length ca] w3 _ from (xi7 HX.out.1 20 (qzC _) 5 (xlv z w.heap.size) w3 (w.heap.size+4) ⟨X.heap,0,0,[]⟩ _ _ _ fc fj s args _ mt (qzC _) hM1 HMi.out (by unfold xmP;simp) HX.out.2.1 HX.out.2.2 hAF HMt.out).mono ?_)
   rw[← HRu.out];rintro e w5 ⟨rfl,⟨T5,hv5,sv5,ov5,hE5,hM5⟩,hK5⟩;dsimp only;have hR5:=hR1.kp hK5 (fun i hi=>by rw[t0 i hi];unfold All;omega)
   have hB5:Below w.heap.size w w5:=hB1.trans (hK5.below (fun b hb=>by rcases xre (z:=z) hb with h | h<;>rw[h]<;>unfold All<;>omega) hB1.size)
   have hz:=hR1.sz;have t52:T5 (w.heap.size+2)=4:=by rw[hE5 _ (by omega)];exact t0 2 (by omega)
   have t53:T5 (w.heap.size+3)=4:=by rw[hE5 _ (by omega)];exact t0 3 (by omega)
   have t5z:T5 z=4:=by rw[hE5 _ (by omega)];exact xqI hzz
   have hCw:=(xpr hC).later xaz (xah hB5 (xaj w5 (.cells #[.int .i64 r.2.1.k,.int .i64 r.2.1.n] 27)));have hHw:=(xpK hH).later xaD (xah hB5 (xaj w5 (.cells #[.int .i64 r.2.1.k,.int .i64 r.2.1.n] 27)));have y0:(w5.alloc (.cells #[.int .i64 r.2.1.k,.int .i64 r.2.1.n] 27)).cell? ⟨w5.heap.size,0,none⟩=some (.int .i64 r.2.1.k):=xaa _ _ _ _ rfl 0;have y1:(w5.alloc (.cells #[.int .i64 r.2.1.k,.int .i64 r.2.1.n] 27)).cell? ⟨w5.heap.size,1,none⟩=some (.int .i64 r.2.1.n):=xaa _ _ _ _ rfl 1;replace hR5:=hR5.later (xaj w5 (.cells #[.int .i64 r.2.1.k,.int .i64 r.2.1.n] 27));replace hM5:=hM5.later (xaj w5 (.cells #[.int .i64 r.2.1.k,.int .i64 r.2.1.n] 27))
   replace hB5:=xah hB5 (xaj w5 (.cells #[.int .i64 r.2.1.k,.int .i64 r.2.1.n] 27));have hvl:w.heap.size+4<w5.heap.size:=qzE (xaf hM1.box) hK5.size;clear n0 n1 n2 m0 m1 m2 m3 hK5 hE5 hR1 hM1 hAF
   go_upto_region 9 with (fail)
   generalize (w5.alloc (.cells #[.int .i64 r.2.1.k,.int .i64 r.2.1.n] 27))=V at *;generalize w5.heap.size=vb at *;have c7:=hM5.c7;obtain⟨a5,c5,rfl,-⟩:=id hM5.heap
   by_cases h0:r.2.2=0
   ·rw[if_neg (by omega)] at HPl
    have HQ:=hid fun u0 u1 u2 v0 v1 v2 v3=>RuPost.fin (z:=z) (P:=Fx T5 V) (r:=⟨r.1.heap,r.2.1,0,r.1.sz_⟩) hB5 hM5.cls hM5.heap (fun b h e=>by have:=h.2;rw[e] at this;omega) (fun h=>by have:=h.2;omega) (fun h=>by have:=h.2;omega) hM5 HSt.out.symm t52 t53 t5z u0 u1 u2 v0 v1 v2 v3
    rw[h0] at c7;obtain⟨-,-,-,-,-,-,-,a0,a1,a2,af,b0,b1,b2,b3,bf,-⟩:=id hR5
    have hSl:∀ w',Below V.heap.size V w'->w'.cell? ⟨w.heap.size+4,0,none⟩=some (.slice ac X.cz.length cc)/\w'.cell? ⟨w.heap.size+4,1,none⟩=some (.slice a5 r.1.heap.length c5)/\w'.cell? ⟨w.heap.size+4,2,none⟩=some (.int .i64 X.ez)/\w'.cell? ⟨vb,0,none⟩=some (.int .i64 r.2.1.k)/\w'.cell? ⟨vb,1,none⟩=some (.int .i64 r.2.1.n)/\w'.cell? ⟨w.heap.size+4,4,none⟩=some (.int .i64 r.1.sz_):=fun w' hb=>by
     have h:=hM5.later hb
     exact⟨h.c0,h.c1,h.c2,qzA hb y0,qzA hb y1,h.c4⟩
    have hS0:=hSl _ (qzL _ V).drew;clear h0
    go_upto_region 11 with (fail)
    refine xaY (S:=fun _=>True) [] (by kernel_rfl) ?_
    refine tj 10 (⟨some 79,.move (.tmp 9),47,_,_,none⟩) (.pointer (some ⟨w.heap.size+4,0,none⟩)) (trivial) ?_ ?_
    ·intro w hSw;obtain _h:=hSw;go_simp
    try simp only[Act.put,qzF,qzG,qzH]
    refine xc6 (S:=fun w'=>w'.cell? ⟨w.heap.size+4,0,none⟩=some (.slice ac X.cz.length cc)/\w'.cell? ⟨w.heap.size+4,1,none⟩=some (.slice a5 r.1.heap.length c5)/\w'.cell? ⟨w.heap.size+4,2,none⟩=some (.int .i64 X.ez)/\w'.cell? ⟨vb,0,none⟩=some (.int .i64 r.2.1.k)/\w'.cell? ⟨vb,1,none⟩=some (.int .i64 r.2.1.n)/\w'.cell? ⟨w.heap.size+4,4,none⟩=some (.int .i64 r.1.sz_)) (late:=[12,13]) _ _ _ _ ?_
    refine tj 0 (⟨some 69,.move (.tmp 9),47,_,_,none⟩) (.pointer (some ⟨w.heap.size+4,0,none⟩)) (hS0) ?_ ?_
    ·rintro w⟨q0,q1,q2,q3,q4,q5⟩;go_simp
    try simp only[Act.put,qzF,qzG,qzH]
    refine tj 1 (⟨some 70,.nilCheck (.tmp 69),0,_,_,none⟩) (.pointer (some ⟨w.heap.size+4,0,none⟩)) (hS0) ?_ ?_
    ·rintro w⟨q0,q1,q2,q3,q4,q5⟩;go_simp
    try simp only[Act.put,qzF,qzG,qzH]
    refine tj 2 (⟨some 71,.fieldAddr 89 (.tmp 70) 0,0,_,_,none⟩) (.pointer (some ⟨w.heap.size+4,0,none⟩)) (hS0) ?_ ?_
    ·rintro w⟨q0,q1,q2,q3,q4,q5⟩;go_simp
    try simp only[Act.put,qzF,qzG,qzH]
    refine tj 3 (⟨some 72,.load 25 (.tmp 71),25,_,_,none⟩) (WV (.slice ac X.cz.length cc) (.slice a5 r.1.heap.length c5) X.ez) (hS0) ?_ ?_
    ·rintro w⟨q0,q1,q2,q3,q4,q5⟩;go_simp
    try simp only[Act.put,qzF,qzG,qzH]
    refine tj 4 (⟨some 73,.load 27 (.tmp 13),27,_,_,none⟩) (VV r.2.1) (hS0) ?_ ?_
    ·rintro w⟨q0,q1,q2,q3,q4,q5⟩;go_simp
    try simp only[Act.put,qzF,qzG,qzH]
    refine tj 5 (⟨some 74,.move (.tmp 9),47,_,_,none⟩) (.pointer (some ⟨w.heap.size+4,0,none⟩)) (hS0) ?_ ?_
    ·rintro w⟨q0,q1,q2,q3,q4,q5⟩;go_simp
    try simp only[Act.put,qzF,qzG,qzH]
    refine tj 6 (⟨some 75,.nilCheck (.tmp 74),0,_,_,none⟩) (.pointer (some ⟨w.heap.size+4,0,none⟩)) (hS0) ?_ ?_
    ·rintro w⟨q0,q1,q2,q3,q4,q5⟩;go_simp
    try simp only[Act.put,qzF,qzG,qzH]
    refine tj 7 (⟨some 76,.fieldAddr 89 (.tmp 75) 2,0,_,_,none⟩) (.pointer (some ⟨w.heap.size+4,4,none⟩)) (hS0) ?_ ?_
    ·rintro w⟨q0,q1,q2,q3,q4,q5⟩;go_simp
    try simp only[Act.put,qzF,qzG,qzH]
    refine tj 8 (⟨some 77,.load 3 (.tmp 76),3,_,_,none⟩) (.int .i64 r.1.sz_) (hS0) ?_ ?_
    ·rintro w⟨q0,q1,q2,q3,q4,q5⟩;go_simp
    try simp only[Act.put,qzF,qzG,qzH]
    refine tj 9 (⟨some 78,.build 37 #[(0,.tmp 73),(2,.tmp 77)],37,_,_,none⟩) (.agg #[.int .i64 r.2.1.k,.int .i64 r.2.1.n,.int .i64 0,.int .i64 r.1.sz_]) (hS0) ?_ ?_
    ·rintro w⟨q0,q1,q2,q3,q4,q5⟩;go_simp
    try simp only[Act.put,qzF,qzG,qzH]
    obtain⟨z0,z1,z2,z3,z4,z5⟩:=hSl _ (qzL _ V).drew;refine xag (rs:=[11]) (by kernel_rfl) (by simp) ?_
    intro i hi;simp only[List.mem_cons,List.not_mem_nil,or_false] at hi;subst hi;refine xa6 (o:=⟨none,.store 25 (.tmp 6) (.tmp 72),0,_,_,none⟩) rfl (fun K' hK=>?_)
    go_simp;refine hK _ _ (fun _=>?_) ?_
    ·exact⟨xkX z0 (by omega),xkX z1 (by omega),xkX z2 (by omega),xkX z3 (by omega),xkX z4 (by omega),xkX z5 (by omega)⟩
    clear hK K'
    try simp only[Act.put,qzF,qzG,qzH]
    refine xag (rs:=[12]) (by kernel_rfl) (by simp) ?_
    intro i hi;simp only[List.mem_cons,List.not_mem_nil,or_false] at hi;subst hi;refine xa6 (o:=⟨none,.store 37 (.tmp 7) (.tmp 78),0,_,_,none⟩) rfl (fun K' hK=>?_)
    go_simp;refine hK _ _ (fun h=>absurd h (by decide)) ?_
    clear hK K'
    try simp only[Act.put,qzF,qzG,qzH]
    refine xcz (S':=fun _=>True) (late':=[]) (by kernel_rfl) ?_
    refine tj 13 (⟨some 8,.assign (.tmp 79),47,_,_,none⟩) (.pointer (some ⟨w.heap.size+4,0,none⟩)) (trivial) ?_ ?_
    ·intro w hSw;obtain _h:=hSw;go_simp
    try simp only[Act.put,qzF,qzG,qzH]
    refine xa0 (by kernel_rfl) ?_ _
    try simp only[Act.put,qzF,qzG,qzH]
    go_wp2;rw[HPl.out];refine qzK (v:=.tuple #[WV (.slice ac X.cz.length cc) (.slice a5 r.1.heap.length c5) X.ez,RnV ⟨r.1.heap,r.2.1,0,r.1.sz_⟩,.pointer (some ⟨w.heap.size+4,0,none⟩)]) ?_ rfl (HQ.out _ _ _ _ _ _ _).drew
    simp[results,Tryz.results13,go_sem,a0,a1,a2,b0,b1,b2,b3]
   ·rw[if_pos h0] at HPl;have HQ:=hid fun u0 u1 u2 v0 v1 v2 v3=>RuPost.fin (z:=z) (P:=fun b=>b≠z/\b<w.heap.size) (r:=⟨X.heap,xaU,r.2.2,r.1.sz_⟩) hB5 hCw hHw (fun _ h=>h.1) (by omega) (by omega) hM5 HSt.out.symm t52 t53 t5z u0 u1 u2 v0 v1 v2 v3
    have h0':(r.2.2 == 0)=false:=by simpa using h0
    obtain⟨-,-,-,-,-,-,-,a0,a1,a2,af,b0,b1,b2,b3,bf,-⟩:=id hR5
    have hSl:∀ w',Below V.heap.size V w'->w'.cell? ⟨w.heap.size,0,none⟩=some (.slice ac X.cz.length cc)/\w'.cell? ⟨w.heap.size,1,none⟩=some (.slice ah X.heap.length ch)/\w'.cell? ⟨w.heap.size,2,none⟩=some (.int .i64 X.ez)/\w'.cell? ⟨w.heap.size+4,7,none⟩=some (.int .i64 r.2.2)/\w'.cell? ⟨w.heap.size+4,4,none⟩=some (.int .i64 r.1.sz_):=fun w' hb=>by
     have h:=hM5.later hb;have h':=hR5.later hb
     exact⟨h'.w0,h'.w1,h'.w2,h.c7,h.c4⟩
    have hS0:=hSl _ (qzL _ V).drew;clear h0
    go_upto_region 10 with (fail)
    refine xaY (S:=fun _=>True) [] (by kernel_rfl) ?_
    refine tj 10 (⟨some 68,.move (.tmp 9),47,_,_,none⟩) (.pointer (some ⟨w.heap.size+4,0,none⟩)) (trivial) ?_ ?_
    ·intro w hSw;obtain _h:=hSw;go_simp
    try simp only[Act.put,qzF,qzG,qzH]
    refine xc6 (S:=fun w'=>w'.cell? ⟨w.heap.size,0,none⟩=some (.slice ac X.cz.length cc)/\w'.cell? ⟨w.heap.size,1,none⟩=some (.slice ah X.heap.length ch)/\w'.cell? ⟨w.heap.size,2,none⟩=some (.int .i64 X.ez)/\w'.cell? ⟨w.heap.size+4,7,none⟩=some (.int .i64 r.2.2)/\w'.cell? ⟨w.heap.size+4,4,none⟩=some (.int .i64 r.1.sz_)) (late:=[12,13]) _ _ _ _ ?_
    refine tj 0 (⟨some 58,.load 25 (.tmp 3),25,_,_,none⟩) (WV (.slice ac X.cz.length cc) (.slice ah X.heap.length ch) X.ez) (hS0) ?_ ?_
    ·rintro w⟨q0,q1,q2,q3,q4⟩;go_simp
    try simp only[Act.put,qzF,qzG,qzH]
    refine tj 1 (⟨some 59,.move (.tmp 9),47,_,_,none⟩) (.pointer (some ⟨w.heap.size+4,0,none⟩)) (hS0) ?_ ?_
    ·rintro w⟨q0,q1,q2,q3,q4⟩;go_simp
    try simp only[Act.put,qzF,qzG,qzH]
    refine tj 2 (⟨some 60,.nilCheck (.tmp 59),0,_,_,none⟩) (.pointer (some ⟨w.heap.size+4,0,none⟩)) (hS0) ?_ ?_
    ·rintro w⟨q0,q1,q2,q3,q4⟩;go_simp
    try simp only[Act.put,qzF,qzG,qzH]
    refine tj 3 (⟨some 61,.fieldAddr 89 (.tmp 60) 5,0,_,_,none⟩) (.pointer (some ⟨w.heap.size+4,7,none⟩)) (hS0) ?_ ?_
    ·rintro w⟨q0,q1,q2,q3,q4⟩;go_simp
    try simp only[Act.put,qzF,qzG,qzH]
    refine tj 4 (⟨some 62,.load 33 (.tmp 61),33,_,_,none⟩) (.int .i64 r.2.2) (hS0) ?_ ?_
    ·rintro w⟨q0,q1,q2,q3,q4⟩;go_simp
    try simp only[Act.put,qzF,qzG,qzH]
    refine tj 5 (⟨some 63,.move (.tmp 9),47,_,_,none⟩) (.pointer (some ⟨w.heap.size+4,0,none⟩)) (hS0) ?_ ?_
    ·rintro w⟨q0,q1,q2,q3,q4⟩;go_simp
    try simp only[Act.put,qzF,qzG,qzH]
    refine tj 6 (⟨some 64,.nilCheck (.tmp 63),0,_,_,none⟩) (.pointer (some ⟨w.heap.size+4,0,none⟩)) (hS0) ?_ ?_
    ·rintro w⟨q0,q1,q2,q3,q4⟩;go_simp
    try simp only[Act.put,qzF,qzG,qzH]
    refine tj 7 (⟨some 65,.fieldAddr 89 (.tmp 64) 2,0,_,_,none⟩) (.pointer (some ⟨w.heap.size+4,4,none⟩)) (hS0) ?_ ?_
    ·rintro w⟨q0,q1,q2,q3,q4⟩;go_simp
    try simp only[Act.put,qzF,qzG,qzH]
    refine tj 8 (⟨some 66,.load 3 (.tmp 65),3,_,_,none⟩) (.int .i64 r.1.sz_) (hS0) ?_ ?_
    ·rintro w⟨q0,q1,q2,q3,q4⟩;go_simp
    try simp only[Act.put,qzF,qzG,qzH]
    refine tj 9 (⟨some 67,.build 37 #[(1,.tmp 62),(2,.tmp 66)],37,_,_,none⟩) (.agg #[.int .i64 0,.int .i64 0,.int .i64 r.2.2,.int .i64 r.1.sz_]) (hS0) ?_ ?_
    ·rintro w⟨q0,q1,q2,q3,q4⟩;go_simp
    try simp only[Act.put,qzF,qzG,qzH]
    obtain⟨z0,z1,z2,z3,z4⟩:=hSl _ (qzL _ V).drew;refine xag (rs:=[11]) (by kernel_rfl) (by simp) ?_
    intro i hi;simp only[List.mem_cons,List.not_mem_nil,or_false] at hi;subst hi;refine xa6 (o:=⟨none,.store 25 (.tmp 6) (.tmp 58),0,_,_,none⟩) rfl (fun K' hK=>?_)
    go_simp;refine hK _ _ (fun _=>?_) ?_
    ·exact⟨xkX z0 (by omega),xkX z1 (by omega),xkX z2 (by omega),xkX z3 (by omega),xkX z4 (by omega)⟩
    clear hK K'
    try simp only[Act.put,qzF,qzG,qzH]
    refine xag (rs:=[12]) (by kernel_rfl) (by simp) ?_
    intro i hi;simp only[List.mem_cons,List.not_mem_nil,or_false] at hi;subst hi;refine xa6 (o:=⟨none,.store 37 (.tmp 7) (.tmp 67),0,_,_,none⟩) rfl (fun K' hK=>?_)
    go_simp;refine hK _ _ (fun h=>absurd h (by decide)) ?_
    clear hK K'
    try simp only[Act.put,qzF,qzG,qzH]
    refine xcz (S':=fun _=>True) (late':=[]) (by kernel_rfl) ?_
    refine tj 13 (⟨some 8,.assign (.tmp 68),47,_,_,none⟩) (.pointer (some ⟨w.heap.size+4,0,none⟩)) (trivial) ?_ ?_
    ·intro w hSw;obtain _h:=hSw;go_simp
    try simp only[Act.put,qzF,qzG,qzH]
    refine xa0 (by kernel_rfl) ?_ _
    try simp only[Act.put,qzF,qzG,qzH]
    go_wp2;rw[HPl.out];refine qzK (v:=.tuple #[WV (.slice ac X.cz.length cc) (.slice ah X.heap.length ch) X.ez,RnV ⟨X.heap,xaU,r.2.2,r.1.sz_⟩,.pointer (some ⟨w.heap.size+4,0,none⟩)]) ?_ rfl (HQ.out _ _ _ _ _ _ _).drew
    simp[results,Tryz.results13,go_sem,a0,a1,a2,b0,b1,b2,b3]
  ·have hj':fj<0:=by omega
   have HRn:=hid (HFn.out hj);have HPl':Hid (xcI X s name args fuel=⟨X.heap,xaU,10,0⟩):=by show _=_;rw[HPl.out,HRn.out];simp
   have HSt':Hid (xf5 X s name args fuel=[]):=by show _=_;rw[HSt.out,HRn.out]
   have HQ:=hid fun u0 u1 u2 v0 v1 v2 v3=>RuPost.fin (z:=z) (P:=fun b=>b≠z/\b<w.heap.size) (r:=⟨X.heap,xaU,10,0⟩) hB1 ((xpr hC).later xaz hB1) ((xpK hH).later xaD hB1) (fun _ h=>h.1) (by omega) (by omega) hM1 rfl (t0 2 (by omega)) (t0 3 (by omega)) (xqI hzz) u0 u1 u2 v0 v1 v2 v3
   obtain⟨n0,n1,n2,-,-,-,-,a0,a1,a2,af,b0,b1,b2,b3,bf,-⟩:=id hR1;clear hfm HFn HPl HSt hj;go_wp2;rw[HPl'.out,HSt'.out];refine qzK (v:=.tuple #[WV (.slice ac X.cz.length cc) (.slice ah X.heap.length ch) X.ez,RnV ⟨X.heap,xaU,10,0⟩,.pointer (some ⟨w.heap.size+4,0,none⟩)]) ?_ rfl (HQ.out _ _ _ _ _ _ _)
   simp[results,Tryz.results13,go_sem,a0,a1,a2,b0,b1,b2,b3]
 ·have hw':(xap X s name args fuel == 0)=false:=by simpa using hw
  have hw2:(xap X s name args fuel != 0)=true:=by simpa using hw
  have HPl:Hid (xcI X s name args fuel=⟨X.heap,xaU,xap X s name args fuel,0⟩):=by show _=_;unfold xcI;rw[if_pos hw]
  have HSt:Hid (xf5 X s name args fuel=[]):=by show _=_;unfold xf5;rw[if_pos hw]
  generalize xap X s name args fuel=we at *;have HQ:=hid fun u0 u1 u2 v0 v1 v2 v3=>RuPost.fin (z:=z) (P:=fun b=>b≠z/\b<w.heap.size) (r:=⟨X.heap,xaU,we,0⟩) hB1 ((xpr hC).later xaz hB1) ((xpK hH).later xaD hB1) (fun _ h=>h.1) (by omega) (by omega) hM1 rfl (t0 2 (by omega)) (t0 3 (by omega)) (xqI hzz) u0 u1 u2 v0 v1 v2 v3
  obtain⟨n0,n1,n2,-,-,-,-,a0,a1,a2,af,b0,b1,b2,b3,bf,-⟩:=id hR1;clear hw;go_wp2;rw[HPl.out,HSt.out];refine qzK (v:=.tuple #[WV (.slice ac X.cz.length cc) (.slice ah X.heap.length ch) X.ez,RnV ⟨X.heap,xaU,we,0⟩,.pointer (some ⟨w.heap.size+4,0,none⟩)]) ?_ rfl (HQ.out _ _ _ _ _ _ _)
  simp[results,Tryz.results13,go_sem,a0,a1,a2,b0,b1,b2,b3]
end Go.Proofs.YtapbeiccodnniaaGreat
