/- A part. -/
import Derived.Test.YtbafokihegegiaaGreatDoorM15
namespace Go.Proofs.YtbafokihegegiaaGreatDoor
open Go.ChangeShapes Go.WideShapes Go.ChangeAt Go.RowKit
set_option linter.unusedSimpArgs false
set_option linter.unusedVariables false
set_option maxHeartbeats 8000000
set_option maxRecDepth 8000
def xsu (W:World)(ep:Int)(cs:List QC)(hs:List QO)(er:Int)(v5:Value)(wx:World):Prop:=
 ∃ (bA:Nat) (a3:Option Addr) (n3 k3:Nat) (a4:Option Addr) (n4 k4:Nat) (e:Int),v5=.pointer (some ⟨bA,0,none⟩)/\wx.heap[bA]?=some (.cells #[.slice a3 n3 k3,.slice a4 n4 k4,.int .i64 e] 26 (0,0))/\W.heap.size<=bA/\Below W.heap.size W wx/\(er=0->e=ep/\xag (fun b=>W.heap.size<=b) wx (.slice a3 n3 k3) cs/\xav (fun b=>W.heap.size<=b) wx (.slice a4 n4 k4) hs)
structure BxT (sb:Nat)(cv hv:Value)(ep:Int)(lv tv sv:Value)(n m:Nat)(o:Obj)(w':World):Prop where
 box:w'.heap[sb]?=some (SeO cv hv ep lv tv sv)
 pa:w'.heap[n]?=some o
 re:w'.heap[m]?=some (.cells #[.int .i64 0,.int .i64 0,.int .i64 0,.int .i64 0] 43 (0,0))
theorem BxT.later {sb:Nat}{cv hv:Value}{ep:Int}{lv tv sv:Value}{n m:Nat}{o:Obj}{w' w'':World}(h:BxT sb cv hv ep lv tv sv n m o w')(hb:Below w'.heap.size w' w''):BxT sb cv hv ep lv tv sv n m o w'':=⟨xaa h.box hb,xaa h.pa hb,xaa h.re hb⟩
theorem xgu {P:Nat->Prop}{w wc F:World}{sb rb:Nat}{cv hv lv tv sv:Value}{s:Sn}{r:ReE}{e:Ending}(hbx:w.heap[sb]?=some (SeO cv hv s.X.ez lv tv sv))(hS:SesAt P w cv hv lv tv s)(hb:Below w.heap.size w wc)(hc:Chg rb wc F)(hr:w.heap.size<=rb)(he:e=.returned (ReV r)):xct P w sb sv s r e F:=by
 have hB:Below w.heap.size w F:=hb.trans (hc.below hr)
 exact⟨he,⟨cv,hv,lv,tv,xaa hbx hB,hS.keep (Keeps.of_below hB) fun b hb=>.inl hb⟩,hB.os,hB.tape,hB.output,hB.size,fun b hb _=>hB.block b hb⟩
theorem xqr {P:Nat->Prop}{w wc Y Z F:World}{sb rb:Nat}{cv hv lv tv sv cv' hv':Value}{s:Sn}{r:ReE}{X:QW}{e:Ending}(hS:SesAt P w cv hv lv tv s)(hP:∀ b,P b->b≠sb)(h1:Below w.heap.size w wc)(h2:Chg sb wc Y)(h3:Below Y.heap.size Y Z)(h4:Chg rb Z F)(hr:w.heap.size<=rb)(hs:sb<w.heap.size)(hY:Y.heap[sb]?=some (SeO cv' hv' X.ez lv tv sv))
  {n:Nat} (hn:w.heap.size<=n) (hrn:rb<n) (hC:xag (fun b=>n<=b) wc cv' X.cz) (hH:xav (fun b=>n<=b) wc hv' X.heap) (he:e=.returned (ReV r)):xct P w sb sv ⟨X,s.cells,s.ts,s.saved⟩ r e F:=by
 have HF:=xjZ h1 h2 h3 h4 hr;refine⟨he,⟨cv',hv',lv,tv,h4.held (xaa hY h3) (by omega),⟨hC.keep xax (HF.keeps _ fun b hb=>⟨by omega,by omega⟩) fun b hb=>.inr (by omega),hH.keep xaB (HF.keeps _ fun b hb=>⟨by omega,by omega⟩) fun b hb=>.inr (by omega),?_,?_⟩⟩,HF.kp⟩
 ·exact hS.l.keep xbF (Keeps.of_block fun b hb hl=>HF.kp.blk b hl (by rw[xbi (hP b hb)];omega)) fun b hb=>.inl hb
 ·exact hS.t.keep xbD (Keeps.of_block fun b hb hl=>HF.kp.blk b hl (by rw[xbi (hP b hb)];omega)) fun b hb=>.inl hb
theorem xmg {P:Nat->Prop}(X:QW)(name:ByteArray)(super slots:Int)(cv hv:Value)(w:World)(hn:name.size<=140737488351232)(hh:xag P w cv X.cz)(hH:xav P w hv X.heap)(ho:xcC X.cz)(he:xbY X.cz name super slots≠0):Calls Tryz.prog 78 #[WV cv hv X.ez,.string name,.int .i64 super,.int .i64 slots] w fun e w'=>e=.returned (.tuple #[WV (.slice none 0 0) (.slice none 0 0) 0,.int .i64 0,.int .i64 (xbY X.cz name super slots)])/\Below w.heap.size w w':=by
 obtain⟨ad,cap,rfl,hl,hcap,hby,-⟩:=id hh;obtain⟨ah,ch,rfl,-,-,-,-⟩:=id hH;have he':(xbY X.cz name super slots != 0)=true:=by simpa using he
 go_enter Tryz.func78,Tryz.ntmps78;go_wp2_with fail;refine (xet X name super slots _ _ _ hn (hh.later xax (xbp _ _ _)) (hH.later xaB (xbp _ _ _)) ho).mono ?_;rintro e w1 ⟨rfl,hb⟩;obtain⟨hc,hf⟩:=xfQ hb;have hz:w.heap.size+1<w1.heap.size:=by have:=hb.size;simp at this;omega
 go_wp2;refine bodyPost_ret (v:=.tuple #[WV (.slice none 0 0) (.slice none 0 0) 0,.int .i64 0,.int .i64 (xbY X.cz name super slots)]) (by simp[results,Tryz.results78,go_sem,hc,hz]) rfl ⟨rfl,?_⟩
 exact (((xaf (xbp _ _ _) hb).setCell (by simp) _).setCell (by simp) _).setCell (by simp) _
theorem xmo {P:Nat->Prop}(X:QW)(name:ByteArray)(super slots:Int)(cv hv:Value)(w:World)(hn:name.size<=140737488351232)(hh:xag P w cv X.cz)(hH:xav P w hv X.heap)(ho:xcC X.cz)(he:xbY X.cz name super slots=0):Calls Tryz.prog 78 #[WV cv hv X.ez,.string name,.int .i64 super,.int .i64 slots] w fun e w'=>∃ cv' hv',e=.returned (.tuple #[WV cv' hv' X.ez,.int .i64 X.cz.length,.int .i64 0])/\xag (fun b=>w.heap.size<=b) w' cv' (xcj X name super slots).cz/\xav (fun b=>w.heap.size<=b) w' hv' X.heap/\Below w.heap.size w w':=by
 obtain⟨ad,cap,rfl,hl,hcap,hby,-⟩:=id hh;obtain⟨ah,ch,rfl,-,-,-,-⟩:=id hH
 have hlen:X.cz.length<12:=by
  unfold xbY at he
  (repeat' split at he)<;>omega
 go_enter Tryz.func78,Tryz.ntmps78;go_wp2_with fail;refine (xet X name super slots _ _ _ hn (hh.later xax (xbp _ _ _)) (hH.later xaB (xbp _ _ _)) ho).mono ?_;rintro e w1 ⟨rfl,hb⟩;rw[he];obtain⟨hc,hf⟩:=xfQ hb;have hz:w.heap.size+1<w1.heap.size:=by have:=hb.size;simp at this;omega
 have hB:=xaf (xbp _ _ _) hb;go_wp2_with fail;refine (xiI X _ _ _ (hh.later xax hB) (hH.later xaB hB)).mono ?_;rintro e w2 ⟨g,gh,s,rfl,hO,hHo,hg,hb2⟩;have a0:w1.cell? ⟨w.heap.size,0,none⟩=some (Value.slice ad X.cz.length cap):=by rw[hc _ _ (by simp;omega)];simp
 have b0:w1.cell? ⟨w.heap.size+1,0,none⟩=some (Value.slice none 0 0):=by rw[hc _ _ (by simp)];simp
 have b1:w1.cell? ⟨w.heap.size+1,1,none⟩=some (Value.slice none 0 0):=by rw[hc _ _ (by simp)];simp
 have b2:w1.cell? ⟨w.heap.size+1,2,none⟩=some (Value.int .i64 0):=by rw[hc _ _ (by simp)];simp
 have bf:∀ o,w1.frozen? ⟨w.heap.size+1,o,none⟩=false:=fun o=>by rw[hf _ _ (by simp)];simp
 clear hc hf;obtain⟨⟨cur,hcur,hcl⟩,-⟩:=id hO;have hgl:=xam hcur;have hz2:=hb2.size
 go_wp2_with (at_builtin;refine xey rfl (.tmp 25) (.tmp 30) rfl g X.cz.length rfl _ rfl cur (((xbp _ _ _).block _ hgl).trans hcur) hcl [.string name,.int .i64 super,.int .i64 slots,.slice none 0 0] (xaR _ _ _ (by simp)) rfl (by intro u hu;simp at hu;rcases hu with rfl | rfl | rfl | rfl<;>rfl) (by omega) ?_;intro g' cap' cur' w3 n1 n2 hh3 hcl3 hg3 hb3;have hB13:=xaf hb2 (xaf (xbp _ _ _) hb3);have p0:=qzA hB13 a0;have q0:=qzA hB13 b0;have q1:=qzA hB13 b1;have q2:=qzA hB13 b2;have qf:∀ o,w3.frozen? ⟨w.heap.size+1,o,none⟩=false:=(fun o=>(hB13.frozen (by simp;omega)).trans (bf o));have m0:=qzA hb3 (qzA (xai _ _) ((xab w2 #[Value.slice (some ⟨g,0,none⟩) X.cz.length X.cz.length,Value.slice (some ⟨gh,0,none⟩) X.heap.length X.heap.length,Value.int .i64 X.ez] 26 _ rfl 0).trans rfl));have m1:=qzA hb3 (qzA (xai _ _) ((xab w2 #[Value.slice (some ⟨g,0,none⟩) X.cz.length X.cz.length,Value.slice (some ⟨gh,0,none⟩) X.heap.length X.heap.length,Value.int .i64 X.ez] 26 _ rfl 1).trans rfl));have m2:=qzA hb3 (qzA (xai _ _) ((xab w2 #[Value.slice (some ⟨g,0,none⟩) X.cz.length X.cz.length,Value.slice (some ⟨gh,0,none⟩) X.heap.length X.heap.length,Value.int .i64 X.ez] 26 _ rfl 2).trans rfl));have mf:∀ o,w3.frozen? ⟨w2.heap.size,o,none⟩=false:=(fun o=>(hb3.frozen (by simp;omega)).trans (((xai _ _).frozen (by simp)).trans (World.frozen?_alloc_new _ _ _ _)));have ms:=xa9 m0 (.slice (some ⟨g',0,none⟩) (X.cz.length+1) cap');have hne1:¬ w2.heap.size=w.heap.size:=(by omega);have hne2:¬ w2.heap.size=w.heap.size+1:=(by omega);have hne3:¬ w.heap.size+1=w2.heap.size:=(by omega);have hne4:¬ w.heap.size=w2.heap.size:=(by omega))
 go_region
 go_wp2;have hO2:=hO.row hby;have hcs:=hO2.blkCells xax hcur hcl;have hB23:=xaf (xbp w2 (Obj.cells #[Value.slice (some ⟨g,0,none⟩) X.cz.length X.cz.length,Value.slice (some ⟨gh,0,none⟩) X.heap.length X.heap.length,Value.int .i64 X.ez] 26) (Obj.cells #[Value.string name,Value.int .i64 super,Value.int .i64 slots,Value.slice none 0 0] 80)) hb3;have hg3':w2.heap.size+1+1<=g':=by simpa using hg3
 have hs0:=hO.2.1;have hs1:=hO.mono 0 X.cz.length (by omega) (qzC _)
 refine bodyPost_ret (v:=.tuple #[WV (.slice (some ⟨g',0,none⟩) (X.cz.length+1) cap') (.slice (some ⟨gh,0,none⟩) X.heap.length X.heap.length) X.ez,.int .i64 X.cz.length,.int .i64 0]) ?_ rfl ⟨_,_,rfl,?_,?_,?_⟩
 ·simp[results,Tryz.results78,go_sem,q0,q1,q2,hne2,hne3]
 ·have h5:Cells xkb 4 (fun b=>w1.heap.size<=b/\b≠w2.heap.size) w3 (cur.toList++[.string name,.int .i64 super,.int .i64 slots,.slice none 0 0]) (xcj X name super slots).cz:=by
   refine ((hcs.keep xax (.of_below hB23) fun b hb=>⟨by have:=hb.1;omega,by have:=hb.2;omega⟩).append xax (Cells.one xax rfl ?_))
   exact⟨rfl,rfl,rfl,hn,_,rfl,none,0,rfl,qzC _,by unfold maxLen;omega,by simp,fun i x hx=>by simp at hx⟩
  have h6:xag (fun b=>w1.heap.size<=b/\b≠w2.heap.size) w3 (.slice (some ⟨g',0,none⟩) (xcj X name super slots).cz.length cap') (xcj X name super slots).cz:=h5.row xax ⟨by omega,by omega⟩ hh3 (by simpa [xcj] using hcl3) (by simpa [xcj] using n1) n2 (by simp[xcj];omega)
  have h7:=h6.keep xax (xas (xas (xas (xas (Keeps.refl _ _) (fun h=>h.2 rfl) (.slice (some ⟨g',0,none⟩) (X.cz.length+1) cap') (o:=0)) (b:=w.heap.size+1) (o:=0) (fun h=>by have:=h.1;omega) (.slice (some ⟨g',0,none⟩) (X.cz.length+1) cap')) (b:=w.heap.size+1) (o:=1) (fun h=>by have:=h.1;omega) (.slice (some ⟨gh,0,none⟩) X.heap.length X.heap.length)) (b:=w.heap.size+1) (o:=2) (fun h=>by have:=h.1;omega) (Value.int .i64 X.ez)) (Q:=fun b=>w.heap.size<=b) (fun b hb=>by have:=hb.1;omega)
  have h8:(xcj X name super slots).cz.length=X.cz.length+1:=by simp[xcj]
  rw[h8] at h7
  exact h7.later xax (Below.refl _ _).drew
 ·have h7:=(hHo.later xaB hB23).keep xaB (xas (xas (xas (xas (Keeps.refl _ _) (b:=w2.heap.size) (o:=0) (fun h=>by have:=h.2;omega) (.slice (some ⟨g',0,none⟩) (X.cz.length+1) cap')) (b:=w.heap.size+1) (o:=0) (fun h=>by have:=h.1;omega) (.slice (some ⟨g',0,none⟩) (X.cz.length+1) cap')) (b:=w.heap.size+1) (o:=1) (fun h=>by have:=h.1;omega) (.slice (some ⟨gh,0,none⟩) X.heap.length X.heap.length)) (b:=w.heap.size+1) (o:=2) (fun h=>by have:=h.1;omega) (Value.int .i64 X.ez)) (Q:=fun b=>w.heap.size<=b) (fun b hb=>by have:=hb.1;omega)
  exact h7.later xaB (Below.refl _ _).drew
 ·exact Below.drew (((((xaf hB hB13).setCell (by simp;omega) _).setCell (by simp) _).setCell (by simp) _).setCell (by simp) _)
theorem xnQ {P:Nat->Prop}(X:QW)(name:ByteArray)(super slots:Int)(cv hv:Value)(w:World)(hn:name.size<=140737488351232)(hh:xag P w cv X.cz)(hH:xav P w hv X.heap)(ho:xcC X.cz){er:Int}(her:xbY X.cz name super slots=er) :
  Calls Tryz.prog 78 #[WV cv hv X.ez,.string name,.int .i64 super,.int .i64 slots] w fun e w'=>Below w.heap.size w w'/\∃ (a3:Option Addr) (n3 k3:Nat) (a4:Option Addr) (n4 k4:Nat) (ep n:Int),e=.returned (.tuple #[WV (.slice a3 n3 k3) (.slice a4 n4 k4) ep,.int .i64 n,.int .i64 er])/\(er=0->n=X.cz.length/\ep=X.ez/\xag (fun b=>w.heap.size<=b) w' (.slice a3 n3 k3) (xcj X name super slots).cz/\xav (fun b=>w.heap.size<=b) w' (.slice a4 n4 k4) X.heap):=by
 subst her
 by_cases he:xbY X.cz name super slots=0
 ·refine (xmo X name super slots cv hv w hn hh hH ho he).mono ?_;rintro e w' ⟨cv',hv',rfl,hC,hH,hb⟩;obtain⟨a3,k3,rfl,-⟩:=id hC;obtain⟨a4,k4,rfl,-⟩:=id hH
  exact⟨hb,_,_,_,_,_,_,_,_,by rw[he],fun _=>⟨rfl,rfl,hC,hH⟩⟩
 ·refine (xmg X name super slots cv hv w hn hh hH ho he).mono ?_;rintro e w' ⟨rfl,hb⟩
  exact⟨hb,none,0,0,none,0,0,0,0,rfl,fun h0=>absurd h0 he⟩
def mkR (s:Sn)(x:StE):Sn × ReE:=if xbY s.X.cz x.name x.cls x.slots≠0 then (s,noE (xbY s.X.cz x.name x.cls x.slots) 0) else (⟨xcj s.X x.name x.cls x.slots,s.cells,s.ts,s.saved⟩,noE 0 s.X.cz.length)
theorem xiK {P Q:Nat->Prop}(s:Sn)(ho:xcC s.X.cz)(x:StE)(cv hv lv tv sv mv av:Value)(w:World)(sb:Nat)(hbx:w.heap[sb]?=some (SeO cv hv s.X.ez lv tv sv))(hS:SesAt P w cv hv lv tv s)(hP:∀ b,P b->b≠sb)(hM:xaG Q w mv x.meth.code)(hA:xaV Q w av x.args)(hn:x.name.size<=140737488351232) :
  Calls Tryz.prog 52 #[.pointer (some ⟨sb,0,none⟩),StV x mv av] w fun e w'=>xct P w sb sv (mkR s x).1 (mkR s x).2 e w':=by
 obtain⟨er,her⟩:∃ er,xbY s.X.cz x.name x.cls x.slots=er:=⟨_,rfl⟩;have hmk:=fun (w':World) (hb:Below w.heap.size w w')=>xnQ s.X x.name x.cls x.slots cv hv w' hn (hS.c.later xax hb) (hS.h.later xaB hb) ho her
 have h1:Hid (er≠0->mkR s x=(s,noE er 0)):=fun h=>by unfold mkR;rw[her,if_pos h]
 have h2:Hid (er=0->mkR s x=(⟨xcj s.X x.name x.cls x.slots,s.cells,s.ts,s.saved⟩,noE 0 s.X.cz.length)):=fun h=>by unfold mkR;rw[her,if_neg (by simp[h])]
 clear her;generalize mkR s x=RR at *;obtain⟨ac,cc,rfl,-⟩:=id hS.c;obtain⟨ah,ch,rfl,-⟩:=id hS.h;obtain⟨al,kl,rfl,-⟩:=id hS.l;obtain⟨at',kt,rfl,-⟩:=id hS.t;obtain⟨am,cm,rfl,-⟩:=id hM;obtain⟨aa,ca,rfl,-⟩:=id hA;have hbW:=xbp w (.cells #[.int .i64 x.kind,.string x.name,.int .i64 x.cls,.int .i64 x.slots,.string x.meth.name,.int .i64 x.meth.args,.int .i64 x.meth.temps,.int .i64 x.meth.prim,.slice am x.meth.code.length cm,.int .i64 x.sf.k,.int .i64 x.sf.n,.string x.cname,.slice aa x.args.length ca] 56) (.cells #[.int .i64 0,.int .i64 0,.int .i64 0,.int .i64 0] 43);have hlt:=xam hbx;have hR:BxT sb (.slice ac s.X.cz.length cc) (.slice ah s.X.heap.length ch) s.X.ez (.slice al s.cells.length kl) (.slice at' s.ts.length kt) sv w.heap.size (w.heap.size+1) (.cells #[.int .i64 x.kind,.string x.name,.int .i64 x.cls,.int .i64 x.slots,.string x.meth.name,.int .i64 x.meth.args,.int .i64 x.meth.temps,.int .i64 x.meth.prim,.slice am x.meth.code.length cm,.int .i64 x.sf.k,.int .i64 x.sf.n,.string x.cname,.slice aa x.args.length ca] 56 (0,0)) ((w.alloc (.cells #[.int .i64 x.kind,.string x.name,.int .i64 x.cls,.int .i64 x.slots,.string x.meth.name,.int .i64 x.meth.args,.int .i64 x.meth.temps,.int .i64 x.meth.prim,.slice am x.meth.code.length cm,.int .i64 x.sf.k,.int .i64 x.sf.n,.string x.cname,.slice aa x.args.length ca] 56)).alloc (.cells #[.int .i64 0,.int .i64 0,.int .i64 0,.int .i64 0] 43)):=⟨xaa hbx hbW,xaa (heap_alloc_new w _) (xai _ _),xaR _ _ _ (by simp)⟩
 have HS:=hid hS;have HX:=hid hbx;clear hS hM hA hbx;go_enter Tryz.func52,Tryz.ntmps52
 go_upto_region 1 with (fail)
 have hWn:w.heap.size+2<=((w.alloc (.cells #[.int .i64 x.kind,.string x.name,.int .i64 x.cls,.int .i64 x.slots,.string x.meth.name,.int .i64 x.meth.args,.int .i64 x.meth.temps,.int .i64 x.meth.prim,.slice am x.meth.code.length cm,.int .i64 x.sf.k,.int .i64 x.sf.n,.string x.cname,.slice aa x.args.length ca] 56)).alloc (.cells #[.int .i64 0,.int .i64 0,.int .i64 0,.int .i64 0] 43)).heap.size:=by simp
 generalize ((w.alloc (.cells #[.int .i64 x.kind,.string x.name,.int .i64 x.cls,.int .i64 x.slots,.string x.meth.name,.int .i64 x.meth.args,.int .i64 x.meth.temps,.int .i64 x.meth.prim,.slice am x.meth.code.length cm,.int .i64 x.sf.k,.int .i64 x.sf.n,.string x.cname,.slice aa x.args.length ca] 56)).alloc (.cells #[.int .i64 0,.int .i64 0,.int .i64 0,.int .i64 0] 43))=W at *;have hSl:∀ W':World,Below W.heap.size W W'->xdN sb (.slice ac s.X.cz.length cc) (.slice ah s.X.heap.length ch) s.X.ez (.slice al s.cells.length kl) (.slice at' s.ts.length kt) sv W'/\W'.cell? ⟨w.heap.size,1,none⟩=some (.string x.name)/\W'.cell? ⟨w.heap.size,2,none⟩=some (.int .i64 x.cls)/\W'.cell? ⟨w.heap.size,3,none⟩=some (.int .i64 x.slots):=fun W' hb=>⟨xdY (hR.later hb).box,by rw[qzB (hR.later hb).pa];rfl,by rw[qzB (hR.later hb).pa];rfl,by rw[qzB (hR.later hb).pa];rfl⟩
 go_cut [5,6,7] (fun v5 v6 v7 wx=>xsu W s.X.ez (xcj s.X x.name x.cls x.slots).cz s.X.heap er v5 wx/\∃ n,v6=.int .i64 n/\v7=.int .i64 er/\(er=0->n=s.X.cz.length))
 case first=>
  refine xat (S:=fun w'=>xdN sb (.slice ac s.X.cz.length cc) (.slice ah s.X.heap.length ch) s.X.ez (.slice al s.cells.length kl) (.slice at' s.ts.length kt) sv w'/\w'.cell? ⟨w.heap.size,1,none⟩=some (.string x.name)/\w'.cell? ⟨w.heap.size,2,none⟩=some (.int .i64 x.cls)/\w'.cell? ⟨w.heap.size,3,none⟩=some (.int .i64 x.slots)) [] (by kernel_rfl) ?_
  have hb:Below W.heap.size W W.drew:=(Below.refl _ W).drew;generalize W.drew=U at *
  repeat' first
   | (
     refine tk 0 (⟨some 9,.move (.tmp 0),86,_,_,none⟩) (.pointer (some ⟨sb,0,none⟩)) rfl (hSl _ hb) (fun _ _ _ h=>h) rfl ?_ ?_ ?_
     ·decide +kernel
     ·intro w hSw;obtain⟨⟨q0,q1,q2,q3,q4,q5⟩,p0,p1,p2⟩:=hSw;go_simp
     try simp only[Act.put,qzF,qzG,qzH])
   | (
     refine tk 1 (⟨some 10,.nilCheck (.tmp 9),0,_,_,none⟩) (.pointer (some ⟨sb,0,none⟩)) rfl (hSl _ hb) (fun _ _ _ h=>h) rfl ?_ ?_ ?_
     ·decide +kernel
     ·intro w hSw;obtain⟨⟨q0,q1,q2,q3,q4,q5⟩,p0,p1,p2⟩:=hSw;go_simp
     try simp only[Act.put,qzF,qzG,qzH])
   | (
     refine tk 2 (⟨some 11,.fieldAddr 31 (.tmp 10) 0,0,_,_,none⟩) (.pointer (some ⟨sb,0,none⟩)) rfl (hSl _ hb) (fun _ _ _ h=>h) rfl ?_ ?_ ?_
     ·decide +kernel
     ·intro w hSw;obtain⟨⟨q0,q1,q2,q3,q4,q5⟩,p0,p1,p2⟩:=hSw;go_simp
     try simp only[Act.put,qzF,qzG,qzH])
   | (
     refine tk 3 (⟨some 12,.load 26 (.tmp 11),26,_,_,none⟩) (WV (.slice ac s.X.cz.length cc) (.slice ah s.X.heap.length ch) s.X.ez) rfl (hSl _ hb) (fun _ _ _ h=>h) rfl ?_ ?_ ?_
     ·decide +kernel
     ·intro w hSw;obtain⟨⟨q0,q1,q2,q3,q4,q5⟩,p0,p1,p2⟩:=hSw;go_simp
     try simp only[Act.put,qzF,qzG,qzH])
   | (
     refine tk 4 (⟨some 13,.fieldAddr 56 (.tmp 3) 1,0,_,_,none⟩) (.pointer (some ⟨w.heap.size,1,none⟩)) rfl (hSl _ hb) (fun _ _ _ h=>h) rfl ?_ ?_ ?_
     ·decide +kernel
     ·intro w hSw;obtain⟨⟨q0,q1,q2,q3,q4,q5⟩,p0,p1,p2⟩:=hSw;go_simp
     try simp only[Act.put,qzF,qzG,qzH])
   | (
     refine tk 5 (⟨some 14,.load 9 (.tmp 13),9,_,_,none⟩) (.string x.name) rfl (hSl _ hb) (fun _ _ _ h=>h) rfl ?_ ?_ ?_
     ·decide +kernel
     ·intro w hSw;obtain⟨⟨q0,q1,q2,q3,q4,q5⟩,p0,p1,p2⟩:=hSw;go_simp
     try simp only[Act.put,qzF,qzG,qzH])
   | (
     refine tk 6 (⟨some 15,.fieldAddr 56 (.tmp 3) 2,0,_,_,none⟩) (.pointer (some ⟨w.heap.size,2,none⟩)) rfl (hSl _ hb) (fun _ _ _ h=>h) rfl ?_ ?_ ?_
     ·decide +kernel
     ·intro w hSw;obtain⟨⟨q0,q1,q2,q3,q4,q5⟩,p0,p1,p2⟩:=hSw;go_simp
     try simp only[Act.put,qzF,qzG,qzH])
   | (
     refine tk 7 (⟨some 16,.load 3 (.tmp 15),3,_,_,none⟩) (.int .i64 x.cls) rfl (hSl _ hb) (fun _ _ _ h=>h) rfl ?_ ?_ ?_
     ·decide +kernel
     ·intro w hSw;obtain⟨⟨q0,q1,q2,q3,q4,q5⟩,p0,p1,p2⟩:=hSw;go_simp
     try simp only[Act.put,qzF,qzG,qzH])
   | (
     refine tk 8 (⟨some 17,.fieldAddr 56 (.tmp 3) 3,0,_,_,none⟩) (.pointer (some ⟨w.heap.size,3,none⟩)) rfl (hSl _ hb) (fun _ _ _ h=>h) rfl ?_ ?_ ?_
     ·decide +kernel
     ·intro w hSw;obtain⟨⟨q0,q1,q2,q3,q4,q5⟩,p0,p1,p2⟩:=hSw;go_simp
     try simp only[Act.put,qzF,qzG,qzH])
   | (
     refine tk 9 (⟨some 18,.load 3 (.tmp 17),3,_,_,none⟩) (.int .i64 x.slots) rfl (hSl _ hb) (fun _ _ _ h=>h) rfl ?_ ?_ ?_
     ·decide +kernel
     ·intro w hSw;obtain⟨⟨q0,q1,q2,q3,q4,q5⟩,p0,p1,p2⟩:=hSw;go_simp
     try simp only[Act.put,qzF,qzG,qzH])
   | (
     refine tk 11 (⟨some 8,.move (.tmp 19),93,_,_,none⟩) (.tuple #[WV (.slice a3 n3 k3) (.slice a4 n4 k4) ep,.int .i64 n,.int .i64 er]) rfl (hSl _ hb) (fun _ _ _ h=>h) rfl ?_ ?_ ?_
     ·decide +kernel
     ·intro w hSw;obtain⟨⟨q0,q1,q2,q3,q4,q5⟩,p0,p1,p2⟩:=hSw;go_simp
     try simp only[Act.put,qzF,qzG,qzH])
   | (
     refine tk 12 (⟨some 20,.extract (.tmp 8) 0,26,_,_,none⟩) (WV (.slice a3 n3 k3) (.slice a4 n4 k4) ep) rfl (hSl _ hb) (fun _ _ _ h=>h) rfl ?_ ?_ ?_
     ·decide +kernel
     ·intro w hSw;obtain⟨⟨q0,q1,q2,q3,q4,q5⟩,p0,p1,p2⟩:=hSw;go_simp
     try simp only[Act.put,qzF,qzG,qzH])
   | (
     refine tk 13 (⟨some 21,.extract (.tmp 8) 1,3,_,_,none⟩) (.int .i64 n) rfl (hSl _ hb) (fun _ _ _ h=>h) rfl ?_ ?_ ?_
     ·decide +kernel
     ·intro w hSw;obtain⟨⟨q0,q1,q2,q3,q4,q5⟩,p0,p1,p2⟩:=hSw;go_simp
     try simp only[Act.put,qzF,qzG,qzH])
   | (
     refine tk 14 (⟨some 22,.extract (.tmp 8) 2,33,_,_,none⟩) (.int .i64 er) rfl (hSl _ hb) (fun _ _ _ h=>h) rfl ?_ ?_ ?_
     ·decide +kernel
     ·intro w hSw;obtain⟨⟨q0,q1,q2,q3,q4,q5⟩,p0,p1,p2⟩:=hSw;go_simp
     try simp only[Act.put,qzF,qzG,qzH])
   | (
     refine tk 17 (⟨some 6,.assign (.tmp 21),3,_,_,none⟩) (.int .i64 n) rfl (hSl _ hb) (fun _ _ _ h=>h) rfl ?_ ?_ ?_
     ·decide +kernel
     ·intro w hSw;obtain⟨⟨q0,q1,q2,q3,q4,q5⟩,p0,p1,p2⟩:=hSw;go_simp
     try simp only[Act.put,qzF,qzG,qzH])
   | (
     refine tk 18 (⟨some 7,.assign (.tmp 22),33,_,_,none⟩) (.int .i64 er) rfl (hSl _ hb) (fun _ _ _ h=>h) rfl ?_ ?_ ?_
     ·decide +kernel
     ·intro w hSw;obtain⟨⟨q0,q1,q2,q3,q4,q5⟩,p0,p1,p2⟩:=hSw;go_simp
     try simp only[Act.put,qzF,qzG,qzH])
   | (
     refine rdy [10,15] rfl ?_ ⟨?_,?_,trivial⟩
     ·decide +kernel)
   | (
     refine rdy [10] rfl ?_ ⟨?_,trivial⟩
     ·decide +kernel)
   | (
     refine rdy [15] rfl ?_ ⟨?_,trivial⟩
     ·decide +kernel)
   | (
     refine rdy [16] rfl ?_ ⟨?_,trivial⟩
     ·decide +kernel)
   | (
     refine xa0 (o:=⟨some 19,.call ⟨.value (.func 78),#[.tmp 12,.tmp 14,.tmp 16,.tmp 18],#[26,9,3,3]⟩,93,_,_,none⟩) rfl (fun K' hK=>?_)
     have hm0:=hb.size
     (try have hoA:=hlA)
     have hcall:=hmk U (xaf hbW hb);obtain⟨lo,hlo⟩:∃ lo,U.heap.size=lo:=⟨_,rfl⟩;rw[hlo] at hm0
     (try rw[hlo] at hoA)
     refine xa1 rfl 78 (.func 78) #[.tmp 12,.tmp 14,.tmp 16,.tmp 18] _ rfl #[] rfl #[WV (.slice ac s.X.cz.length cc) (.slice ah s.X.heap.length ch) s.X.ez,.string x.name,.int .i64 x.cls,.int .i64 x.slots] (by simp[Act.eval,Act.put]) (xda Tryz.func78 (by kernel_rfl) (by kernel_rfl) _ _) ?_
     refine (show Calls Tryz.prog 78 #[WV (.slice ac s.X.cz.length cc) (.slice ah s.X.heap.length ch) s.X.ez,.string x.name,.int .i64 x.cls,.int .i64 x.slots] U _ from hcall.mono ?_)
     rintro e U ⟨hcV,a3,n3,k3,a4,n4,k4,ep,n,rfl,hNw⟩;rw[hlo] at hNw;refine⟨_,rfl,?_⟩;replace hb:=xaf hb hcV;refine hK _ _ (fun _=>?_) ?_
     ·exact hSl _ hb
     clear hK K' hcall
     try simp only[Act.put,qzF,qzG,qzH]
     (try replace hZA:=xaa hZA hcV)
     (try replace hlA:=qzE hlA hcV.size)
     obtain⟨V,hNV,hag,hmV,hu⟩:∃ V:World,Hid (er=0->n=s.X.cz.length/\ep=s.X.ez/\xag (fun c=>lo<=c) V (.slice a3 n3 k3) (xcj s.X x.name x.cls x.slots).cz/\xav (fun c=>lo<=c) V (.slice a4 n4 k4) s.X.heap)/\(∀ c,lo<=c->c<V.heap.size->U.heap[c]?=V.heap[c]?)/\V.heap.size<=U.heap.size/\lo<=V.heap.size:=⟨U,hNw,fun _ _ _=>rfl,qzC _,by rw[← hlo];exact hcV.size⟩
     clear hNw hcV hlo)
   | (
     refine xa0 (o:=⟨some 5,.alloc 26,0,_,_,none⟩) rfl (fun K' hK=>?_)
     go_simp;refine hK _ _ (fun _=>?_) ?_
     ·exact hSl _ (xaf hb (xai _ _))
     clear hK K'
     try simp only[Act.put,qzF,qzG,qzH]
     have hZA:(U.alloc (.cells #[.slice none 0 0,.slice none 0 0,.int .i64 0] 26)).heap[U.heap.size]?=some (.cells #[.slice none 0 0,.slice none 0 0,.int .i64 0] 26 (0,0)):=heap_alloc_new _ _;have hk:=xai U (.cells #[.slice none 0 0,.slice none 0 0,.int .i64 0] 26);have hzA:=hb.size;have hlA:U.heap.size<(U.alloc (.cells #[.slice none 0 0,.slice none 0 0,.int .i64 0] 26)).heap.size:=by simp
     replace hb:=xaf hb hk
     (try replace hag:=fun c h1 h2=>(hk.block c (qzE h2 hmV)).trans (hag c h1 h2))
     (try have hoA:U.heap.size<lo\/V.heap.size<=U.heap.size:=.inr hmV)
     (try replace hmV:=qzD hmV hk.size)
     clear hk;generalize U.heap.size=bA at *;generalize U.alloc (.cells #[.slice none 0 0,.slice none 0 0,.int .i64 0] 26)=U at *)
   | (
     refine xa0 (o:=⟨none,.store 26 (.tmp 5) (.tmp 20),0,_,_,none⟩) rfl (fun K' hK=>?_)
     have q:=bx3 hZA;have rf:=q.1;have r0:=q.2.1;have r1:=q.2.2.1;have r2:=q.2.2.2;obtain⟨hZn,hch⟩:=xsq hZA (.slice a3 n3 k3) (.slice a4 n4 k4) (.int .i64 ep);go_simp;refine hK _ _ (fun _=>?_) ?_
     ·exact hSl _ (hb.trans (hch.below hzA))
     clear hK K' q rf r0 r1 r2
     try simp only[Act.put,qzF,qzG,qzH]
     replace hZA:=hZn;clear hZn;replace hb:=hb.trans (hch.below hzA);replace hag:=fun c h1 h2=>(hch.blk c (by omega)).trans (hag c h1 h2)
     clear hch;generalize (((U.setCell ⟨bA,0,none⟩ (.slice a3 n3 k3)).setCell ⟨bA,1,none⟩ (.slice a4 n4 k4)).setCell ⟨bA,2,none⟩ (.int .i64 ep))=U at *)
   | (
     refine xaE ?_ ?_ _
     ·decide +kernel
     try simp only[Act.put,qzF,qzG,qzH]
     have HFIN:Hid (xsu W s.X.ez (xcj s.X x.name x.cls x.slots).cz s.X.heap er (.pointer (some ⟨bA,0,none⟩)) U/\(er=0->n=s.X.cz.length)):=⟨⟨bA,a3,n3,k3,a4,n4,k4,ep,rfl,hZA,hzA,hb,fun h0=>⟨(hNV.out h0).2.1,(hNV.out h0).2.2.1.keep xax (Keeps.of_block hag) (fun c h1=>qzD hm0 h1),(hNV.out h0).2.2.2.keep xaB (Keeps.of_block hag) (fun c h1=>qzD hm0 h1)⟩⟩,fun h0=>(hNV.out h0).1⟩
     go_wp2_with fail
     go_meet
     case rel=>exact⟨HFIN.out.1,n,rfl,rfl,HFIN.out.2⟩)
 case rest=>
  obtain⟨⟨bA,a3,n3,k3,a4,n4,k4,ep,rfl,hZA,hzA,hbF,hNF⟩,n,rfl,rfl,hnn⟩:=hcut;have hRc:=hR.later hbF;have HRC:=hid hRc
  by_cases h0:er=0
  ·subst h0;obtain⟨rfl,hC3,hH3⟩:=hNF rfl;obtain rfl:=hnn rfl;have hRR:=hid (h2.out rfl);obtain⟨-,fA0,fA1,fA2⟩:=bx3 hZA;obtain⟨s0,s1,s2,s3,s4,s5⟩:=xdY hRc.box;have sf:=xaq hRc.box;obtain⟨hbY,hcY⟩:=xsw hRc.box (.slice a3 n3 k3) (.slice a4 n4 k4) s.X.ez;have hre:=hcY.held HRC.out.re (by omega)
   obtain⟨rf,r0,r1,r2,r3⟩:=bx4 hre;obtain⟨hF,hcF⟩:=xk4 hre (.int .i64 0) (.int .i64 s.X.cz.length) (.int .i64 0) (.int .i64 0);have HF:=hid (xqr HS.out hP (xaf hbW hbF) hcY (Below.refl _ _) hcF (Nat.le_succ _) hlt hbY (X:=xcj s.X x.name x.cls x.slots) (n:=W.heap.size) (by omega) (by omega) hC3 hH3 (r:=noE 0 s.X.cz.length) rfl)
   clear hC3 hH3 hNF hnn hmk;go_wp2;refine bodyPost_ret (v:=ReV (noE 0 s.X.cz.length)) ?_ rfl (by rw[hRR.out];exact HF.out)
   simp[results,Tryz.results52,go_sem,r0,r1,r2,r3]
  ·have hRR:=hid (h1.out h0);have hrf:=fun w'=>xdB er w'
   go_wp2_with fail;refine (hrf _).mono ?_;rintro e Z ⟨rfl,hbZ⟩;have hreZ:=xaa hRc.re hbZ;obtain⟨rf,r0,r1,r2,r3⟩:=bx4 hreZ;obtain⟨hF,hcF⟩:=xk4 hreZ (.int .i64 er) (.int .i64 0) (.int .i64 0) (.int .i64 0);have HF:=hid (xgu HX.out HS.out (xaf (xaf hbW hbF) hbZ) hcF (Nat.le_succ _) (r:=noE er 0) rfl);go_wp2;refine bodyPost_ret (v:=ReV (noE er 0)) ?_ rfl (by rw[hRR.out];exact HF.out)
   simp[results,Tryz.results52,go_sem,r0,r1,r2,r3]
end Go.Proofs.YtbafokihegegiaaGreatDoor
