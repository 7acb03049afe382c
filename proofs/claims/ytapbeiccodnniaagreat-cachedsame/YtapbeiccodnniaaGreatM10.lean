/- A part. -/
import Derived.Test.YtapbeiccodnniaaGreatM9
namespace Go.Proofs.YtapbeiccodnniaaGreat
open Go.ChangeShapes Go.WideShapes Go.ChangeAt Go.RowKit
set_option linter.unusedSimpArgs false
set_option linter.unusedVariables false
set_option maxHeartbeats 8000000
set_option maxRecDepth 8000
theorem OwnC.rowIn {w:World}{B:Nat}{xs:List QC}{s:Nat->Nat}(h:OwnC w B xs s xs.length)(hby:xs.length*56<=140737488351232):xai (fun b=>B<=b/\b<s xs.length) w (.slice (some ⟨B,0,none⟩) xs.length xs.length) xs:=by
 have hB:=h.2.1;have h0n:=h.mono 0 xs.length (by omega) (qzC _)
 refine⟨_,_,rfl,qzC _,by unfold maxLen;omega,hby,fun i x hx=>⟨B,0,rfl,⟨qzC _,by omega⟩,?_⟩⟩
 have hi:=xae hx;have hn:=h.mono (i+1) xs.length (by omega) (qzC _)
 have hk:=h.2.2.2.2 i x hi hx;have hm:=h.mono 0 i (by omega) (by omega)
 obtain⟨g,hg,hlo,hM⟩:=hk.meths;obtain⟨h0,h1,h2,h3,-⟩:=hk;simp only[Nat.zero_add]
 exact⟨h0,h1,h2,h3,_,hg,hM.mono xbi fun b hb=>⟨by have:=hb.1;omega,by have:=hb.2;omega⟩⟩
theorem xma {P:Nat->Prop}(X:QW)(cv hv:Value)(w:World)(h1:xai P w cv X.cz)(h2:xaC P w hv X.heap):Calls Tryz.prog 42 #[WV cv hv X.ez] w fun e w'=>∃ g gh sh,e=.returned (WV (.slice (some ⟨g,0,none⟩) X.cz.length X.cz.length) (.slice (some ⟨gh,0,none⟩) X.heap.length X.heap.length) X.ez)/\xai (fun b=>w.heap.size<=b/\b<gh) w' (.slice (some ⟨g,0,none⟩) X.cz.length X.cz.length) X.cz/\HRow w' gh sh X.heap X.heap.length/\w.heap.size<=gh/\Below w.heap.size w w':=by
 obtain⟨a1,c1,e1,-,-,b1,-⟩:=id h1;refine (xn4 X cv hv w h1 h2).mono ?_;rintro e w' ⟨g,gh,s,rfl,hO,⟨sh,hR⟩,hs,hg,hb⟩;have hB:=hO.2.1;have h0n:=hO.mono 0 X.cz.length (by omega) (qzC _)
 exact⟨g,gh,sh,rfl,(hO.rowIn b1).mono xaz fun b hb=>⟨by have:=hb.1;omega,by have:=hb.2;omega⟩,hR,by omega,hb⟩
theorem HRow.isHeap {w:World}{g:Nat}{s:Nat->Nat}{xs:List QO}(h:HRow w g s xs xs.length)(hby:xs.length*32<=140737488351232):xaC (fun b=>g<=b) w (.slice (some ⟨g,0,none⟩) xs.length xs.length) xs:=by
 have hT:∀ b,g<=b->b<w.heap.size->(fun b=>if g<=b then 2 else 0) b=2:=fun b hb _=>by simp[hb]
 refine (h.heap hby hT).heap.mono xaD fun b hb=>?_
 have:=hb.2;simp only at this
 split at this
 ·assumption
 ·cases this
section
variable {σ:Type} {L:(Nat->Nat)->World->σ->Nat->Prop} {LF QF:Nat} {lc qc:Array Value}
structure Lok (L:(Nat->Nat)->World->σ->Nat->Prop):Prop where
 keep:∀ {T T':Nat->Nat} {w w':World} {st:σ} {n:Nat} {S:Nat->Prop},L T w st n->Ext T T' w->Kp S T w w'->¬ S 0->¬ S 3->L T' w' st n
 mono:∀ {T:Nat->Nat} {w:World} {st:σ} {n n':Nat},L T w st n->n'<=n->L T w st n'
theorem WiPost.fin (hCx:Lok L){w U:World}{X:QW}{r:Ran × σ}{cv hv:Value}{P:Nat->Prop}{T0 T1:Nat->Nat}{n:Nat}(hk:Kp (fun t=>t=3) T0 w U)(hE:Ext T0 T1 w)(hL:L T1 U r.2 n)(t2:T1 (w.heap.size+2)=4)(t3:T1 (w.heap.size+3)=4)(hC:xai P U cv X.cz)(hH:xaC P U hv r.1.heap)(h2:¬ P (w.heap.size+2))(h3:¬ P (w.heap.size+3))(hP:∀ x,P x->w.heap.size<=x/\T1 x≠3)(u0 u1 u2 v0 v1 v2 v3:Value) :
  WiPost L T0 w X r (.returned (.tuple #[WV cv hv X.ez,RnV r.1])) (((((((U.setCell ⟨w.heap.size+2,0,none⟩ u0).setCell ⟨w.heap.size+2,1,none⟩ u1).setCell ⟨w.heap.size+2,2,none⟩ u2).setCell ⟨w.heap.size+3,0,none⟩ v0).setCell ⟨w.heap.size+3,1,none⟩ v1).setCell ⟨w.heap.size+3,2,none⟩ v2).setCell ⟨w.heap.size+3,3,none⟩ v3):=by
 have k:Keeps P U (((((((U.setCell ⟨w.heap.size+2,0,none⟩ u0).setCell ⟨w.heap.size+2,1,none⟩ u1).setCell ⟨w.heap.size+2,2,none⟩ u2).setCell ⟨w.heap.size+3,0,none⟩ v0).setCell ⟨w.heap.size+3,1,none⟩ v1).setCell ⟨w.heap.size+3,2,none⟩ v2).setCell ⟨w.heap.size+3,3,none⟩ v3):=xaq (xaq (xaq (xaq (xaq (xaq (xaq (Keeps.refl _ _) h2 _) h2 _) h2 _) h3 _) h3 _) h3 _) h3 _;have hn2:¬ w.heap.size+2<w.heap.size:=by omega
 have hn3:¬ w.heap.size+3<w.heap.size:=by omega
 have k4:Kp (fun t=>t=4) T1 U (((((((U.setCell ⟨w.heap.size+2,0,none⟩ u0).setCell ⟨w.heap.size+2,1,none⟩ u1).setCell ⟨w.heap.size+2,2,none⟩ u2).setCell ⟨w.heap.size+3,0,none⟩ v0).setCell ⟨w.heap.size+3,1,none⟩ v1).setCell ⟨w.heap.size+3,2,none⟩ v2).setCell ⟨w.heap.size+3,3,none⟩ v3):=(((((((Kp.refl _ _ _).set (fun _=>t2) _ _).set (fun _=>t2) _ _).set (fun _=>t2) _ _).set (fun _=>t3) _ _).set (fun _=>t3) _ _).set (fun _=>t3) _ _).set (fun _=>t3) _ _
 refine⟨((((((hk.set (fun h=>absurd h hn2) _ _).set (fun h=>absurd h hn2) _ _).set (fun h=>absurd h hn2) _ _).set (fun h=>absurd h hn3) _ _).set (fun h=>absurd h hn3) _ _).set (fun h=>absurd h hn3) _ _).set (fun h=>absurd h hn3) _ _,T1,hE,hCx.mono (hCx.keep hL (.refl _ _) k4 (by omega) (by omega)) (Nat.zero_le _),cv,hv,rfl,hC.keep xaz k hP,hH.keep xaD k hP⟩
theorem WiPost.drew (hCx:Lok L){w w':World}{X:QW}{r:Ran × σ}{T0:Nat->Nat}{e:Ending}(h:WiPost L T0 w X r e w'):WiPost L T0 w X r e w'.drew:=by
 obtain⟨hb,T',hE,hL,cv,hv,rfl,h1,h2⟩:=h
 exact⟨hb.drew,T',hE,hCx.keep hL (.refl _ _) (Kp.refl (fun _=>False) _ _).drew id id,cv,hv,rfl,h1.later xaz (Below.refl _ _).drew,h2.later xaD (Below.refl _ _).drew⟩
end
theorem xdb (d:Nat)(t:TypeId)(k:Nat)(c:Array Value)(w:World){a b v}(h:Tryz.prog.underlying t=some (.func a b v)):(Op.equalIn (d+1) t (.func (.func k) #[] c) .nilFunc).run Tryz.prog w=.ok false w:=by
 simp[Op.equalIn,run_underlying h]
theorem xoW (k:Nat)(c:Array Value)(w:World):(binOp .eql 82 (.func (.func k) #[] c) .nilFunc).run Tryz.prog w=.ok (.bool false) w:=by
 simp only[binOp];have:(Op.equal 82 (.func (.func k) #[] c) .nilFunc).run Tryz.prog w=.ok false w:=xdb 9999 82 k c w Tryz.underlying82
 simp[this]
theorem xoN (k:Nat)(c:Array Value)(w:World):(binOp .eql 108 (.func (.func k) #[] c) .nilFunc).run Tryz.prog w=.ok (.bool false) w:=by
 simp only[binOp];have:(Op.equal 108 (.func (.func k) #[] c) .nilFunc).run Tryz.prog w=.ok false w:=xdb 9999 108 k c w Tryz.underlying108
 simp[this]
def xk8 (T0:Nat->Nat)(n gh mb:Nat):Nat->Nat:=fun x=>if x<n then T0 x else if x<n+4 then 4 else if x<gh then 0 else if x<mb then 2 else 1
structure EeR (w:World)(mb:Nat)(v0 v1:Value)(ep n:Int)(w':World):Prop where
 w0:w'.cell? ⟨w.heap.size,0,none⟩=some v0
 w1:w'.cell? ⟨w.heap.size,1,none⟩=some v1
 w2:w'.cell? ⟨w.heap.size,2,none⟩=some (.int .i64 ep)
 m4:w'.cell? ⟨mb,4,none⟩=some (.int .i64 n)
 lt:w.heap.size+4<=mb
theorem EeR.later {w:World}{mb:Nat}{v0 v1:Value}{ep n:Int}{w' w'':World}(h:EeR w mb v0 v1 ep n w')(hb:Below w'.heap.size w' w''):EeR w mb v0 v1 ep n w'':=⟨qzA hb h.w0,qzA hb h.w1,qzA hb h.w2,qzA hb h.m4,h.lt⟩
theorem EeR.set {w:World}{mb:Nat}{v0 v1:Value}{ep n:Int}{w':World}(h:EeR w mb v0 v1 ep n w'){b:Nat}(hb:b=w.heap.size+2\/b=w.heap.size+3)(o:Nat)(u:Value):EeR w mb v0 v1 ep n (w'.setCell ⟨b,o,none⟩ u):=
 have hl:=h.lt
 ⟨(World.cell?_setCell_far _ _ _ _ (by simp;omega)).trans h.w0,(World.cell?_setCell_far _ _ _ _ (by simp;omega)).trans h.w1,(World.cell?_setCell_far _ _ _ _ (by simp;omega)).trans h.w2,(World.cell?_setCell_far _ _ _ _ (by simp;omega)).trans h.m4,hl⟩
theorem EeR.al {w:World}{mb:Nat}{v0 v1:Value}{ep n:Int}{w':World}(h:EeR w mb v0 v1 ep n w'):w'.cell? ⟨w.heap.size,0,none⟩=some v0/\w'.cell? ⟨w.heap.size,1,none⟩=some v1/\w'.cell? ⟨w.heap.size,2,none⟩=some (.int .i64 ep)/\w'.cell? ⟨mb,4,none⟩=some (.int .i64 n):=⟨h.w0,h.w1,h.w2,h.m4⟩
theorem xme {σ:Type}{L:(Nat->Nat)->World->σ->Nat->Prop}{LF QF:Nat}{lc qc:Array Value}{T0:Nat->Nat}(X:QW)(hX:xaJ X=0)(E:Env σ)(st0:σ)(hEc:E.cz=X.cz)(s:QV)(name:ByteArray)(args:List QV)(cv hv av:Value)(w:World)(hTo:∀ x,x<w.heap.size->T0 x=0\/T0 x=3)(hC:xai (Fx T0 w) w cv X.cz)(hH:xaC (Fx T0 w) w hv X.heap)(hA:xaB (Fx T0 w) w av args)(hn:name.size<=140737488351232)(hLo:Lok L)(hL:L T0 w st0 (min E.fuel.toNat 400))(hCx:0<=E.fuel->E.fuel<=400->∀ cv',Cx (⟨E,cv',X.ez,.func (.func LF) #[] lc,.func (.func QF) #[] qc⟩:Mp σ) L LF lc QF qc) :
  Calls Tryz.prog 22 #[WV cv hv X.ez,ClV s name av,.int .i64 E.fuel,.func (.func LF) #[] lc,.func (.func QF) #[] qc] w fun e w'=>WiPost L T0 w X (xdh E X st0 s name args E.fuel) e w':=by
 obtain⟨fuel,hfuel⟩:∃ fuel,E.fuel=fuel:=⟨_,rfl⟩;rw[hfuel] at hL ⊢;have HFU:=hid hfuel;clear hfuel;have hR:=xka w cv hv X.ez s name av;have hbW:Below w.heap.size w ((((w.alloc (.cells #[cv,hv,.int .i64 X.ez] 25)).alloc (.cells #[.int .i64 s.k,.int .i64 s.n,.string name,av] 30)).alloc (.cells #[.slice none 0 0,.slice none 0 0,.int .i64 0] 25)).alloc (.cells #[.int .i64 0,.int .i64 0,.int .i64 0,.int .i64 0] 37)):=xah (xca _ _ _) (xca _ _ _);obtain⟨ac,cc,hcv,-,-,hby,-⟩:=id hC;obtain⟨ah,ch,hhv,-,-,hbyh,-⟩:=id hH;obtain⟨aa,ca,hav,-⟩:=id hA;subst hcv hhv hav;go_enter Tryz.func22,Tryz.ntmps22
 go_upto_region 1 with (fail)
 generalize ((((w.alloc (.cells #[.slice ac X.cz.length cc,.slice ah X.heap.length ch,.int .i64 X.ez] 25)).alloc (.cells #[.int .i64 s.k,.int .i64 s.n,.string name,.slice aa args.length ca] 30)).alloc (.cells #[.slice none 0 0,.slice none 0 0,.int .i64 0] 25)).alloc (.cells #[.int .i64 0,.int .i64 0,.int .i64 0,.int .i64 0] 37))=W at *;obtain⟨w0,w1,w2,c0,c1,c2,c3,-⟩:=id hR;have hwr:=xkq X s name args fuel (.slice ac X.cz.length cc) _ _ W ⟨_,_,_,rfl⟩ (hH.later xaD hbW) (hA.later xaK hbW) hn;have HPE:Hid (xdh E X st0 s name args fuel=if xap X s name args fuel≠0 then (⟨X.heap,xaU,xap X s name args fuel,0⟩,st0) else (xop X (xdf E X st0 s name args),(xdf E X st0 s name args).1.st)):=rfl
 have HWI:Hid (xap X s name args fuel=0->(0<=fuel/\fuel<=400)/\xas X.heap.length s=0/\VsOk X.heap.length args):=xcH;obtain⟨ws,hws⟩:∃ ws,xap X s name args fuel=ws:=⟨_,rfl⟩;rw[hws] at hwr HPE HWI;clear hws;go_wp2_with fail;refine hwr.mono ?_;rintro e w1' ⟨rfl,hbv⟩;have hR1:=hR.later hbv;have HB1:=hid (xah hbW hbv);clear w0 w1 w2 c0 c1 c2 c3 hwr hR;have hown:=fun w' (k:Kp (fun t=>t=3) T0 w w')=>xma X _ _ w' (hC.fx xaz (.refl _ _) k (by omega)) (hH.fx xaD (.refl _ _) k (by omega))
 obtain⟨w0,w1,w2,c0,c1,c2,c3,-⟩:=id hR1
 by_cases hz:ws=0
 ·have hz':(ws != 0)=false:=by simpa using hz
  rw[if_neg (by simpa using hz)] at HPE
  obtain⟨hfu,hsl,hvs⟩:=HWI.out hz;clear HWI hz;have hq1:=xoW;have hq2:=xoN;have hsf:∀ (w:World) (a:Addr) (k:Nat) (c:Array Value),(store a (.func (.func k) #[] c)).run Tryz.prog w=stored Tryz.prog w a (.func (.func k) #[] c) .plain:=fun w a k c=>run_store Tryz.prog w a _ _ rfl
  go_wp2_with fail;refine (hown _ (Kp.of_below HB1.out)).mono ?_;rintro e w2' ⟨g,gh,sh,rfl,hCo,hHo,hgh,hbo⟩;have hR2:=hR1.later hbo;have hsz:=hR1.sz;have HB2:=hid (xah HB1.out hbo);clear w0 w1 w2 c0 c1 c2 c3 hR1;have hbM:=xaj w2' (MB (⟨E,.slice (some ⟨g,0,none⟩) X.cz.length X.cz.length,X.ez,.func (.func LF) #[] lc,.func (.func QF) #[] qc⟩:Mp σ) (⟨X.heap,0,0,st0⟩:Mc σ) 0 (.slice (some ⟨gh,0,none⟩) X.heap.length X.heap.length));have hbw3:=xah HB2.out hbM;have hgl:gh<w2'.heap.size:=by obtain⟨cur,h1,-⟩:=hHo.row;exact xaf h1
  have hs2:=hbo.size;have TO:∀ x,x<w.heap.size->xk8 T0 w.heap.size gh w2'.heap.size x=T0 x:=fun x hx=>by unfold xk8;rw[if_pos hx]
  have T4:∀ i,i<4->xk8 T0 w.heap.size gh w2'.heap.size (w.heap.size+i)=4:=fun i hi=>by unfold xk8;rw[if_neg (by omega),if_pos (by omega)]
  have Tc:∀ x,w1'.heap.size<=x->x<gh->xk8 T0 w.heap.size gh w2'.heap.size x=0:=fun x h1 h2=>by unfold xk8;rw[if_neg (by omega),if_neg (by omega),if_pos h2]
  have Th:∀ x,gh<=x->x<w2'.heap.size->xk8 T0 w.heap.size gh w2'.heap.size x=2:=fun x h1 h2=>by unfold xk8;rw[if_neg (by omega),if_neg (by omega),if_neg (by omega),if_pos h2]
  have Tm:xk8 T0 w.heap.size gh w2'.heap.size w2'.heap.size=1:=by unfold xk8;rw[if_neg (by omega),if_neg (by omega),if_neg (by omega),if_neg (by omega)]
  generalize xk8 T0 w.heap.size gh w2'.heap.size=Tg at *
  have hM3:MacAt (⟨E,.slice (some ⟨g,0,none⟩) X.cz.length X.cz.length,X.ez,.func (.func LF) #[] lc,.func (.func QF) #[] qc⟩:Mp σ) Tg (w2'.alloc (MB (⟨E,.slice (some ⟨g,0,none⟩) X.cz.length X.cz.length,X.ez,.func (.func LF) #[] lc,.func (.func QF) #[] qc⟩:Mp σ) (⟨X.heap,0,0,st0⟩:Mc σ) 0 (.slice (some ⟨gh,0,none⟩) X.heap.length X.heap.length))) w2'.heap.size ⟨X.heap,0,0,st0⟩ 0 (.slice (some ⟨gh,0,none⟩) X.heap.length X.heap.length) gh sh:=
   ⟨heap_alloc_new w2' _,Tm,(hHo.heap hbyh Th).keep (.refl _ _) (Kp.of_below (S:=fun _=>False) hbM) id,by rw[hEc];exact hCo.keep xaz (Keeps.of_below hbM) fun x hx=>⟨by have:=hx.2;simp;omega,Tc x hx.1 hx.2⟩⟩
  have hXt:Ext T0 Tg w:=fun x hx=>TO x hx
  have hkT:Kp (fun _=>False) T0 w (w2'.alloc (MB (⟨E,.slice (some ⟨g,0,none⟩) X.cz.length X.cz.length,X.ez,.func (.func LF) #[] lc,.func (.func QF) #[] qc⟩:Mp σ) (⟨X.heap,0,0,st0⟩:Mc σ) 0 (.slice (some ⟨gh,0,none⟩) X.heap.length X.heap.length))):=Kp.of_below hbw3
  have hLk:L Tg (w2'.alloc (MB (⟨E,.slice (some ⟨g,0,none⟩) X.cz.length X.cz.length,X.ez,.func (.func LF) #[] lc,.func (.func QF) #[] qc⟩:Mp σ) (⟨X.heap,0,0,st0⟩:Mc σ) 0 (.slice (some ⟨gh,0,none⟩) X.heap.length X.heap.length))) st0 (E.fuel-0).toNat:=by
   rw[HFU.out,Int.sub_zero];rw[Nat.min_eq_left (by omega)] at hL
   exact hLo.keep hL hXt hkT id id
  have hA3:=hA.fx xaK hXt hkT id;have hMi:MIn (⟨E,.slice (some ⟨g,0,none⟩) X.cz.length X.cz.length,X.ez,.func (.func LF) #[] lc,.func (.func QF) #[] qc⟩:Mp σ).E (⟨X.heap,0,0,st0⟩:Mc σ):=⟨by show HOk E.cz X.heap;rw[hEc];exact xdz hX,⟨by simp,by show (0:Int)<=E.fuel;rw[HFU.out];exact hfu.1⟩,by simp⟩
  have hfst:=xki (hCx (by rw[HFU.out];exact hfu.1) (by rw[HFU.out];exact hfu.2) (.slice (some ⟨g,0,none⟩) X.cz.length X.cz.length)) hM3 hLk hMi s name args _ hsl hvs hA3 (K:=5) (qzC _)
  have hR3:=hR2.later hbM;have HBW3:=hid hbw3;have HCo3:Hid (xai (fun x=>w1'.heap.size<=x/\x<gh) (w2'.alloc (MB (⟨E,.slice (some ⟨g,0,none⟩) X.cz.length X.cz.length,X.ez,.func (.func LF) #[] lc,.func (.func QF) #[] qc⟩:Mp σ) (⟨X.heap,0,0,st0⟩:Mc σ) 0 (.slice (some ⟨gh,0,none⟩) X.heap.length X.heap.length))) (.slice (some ⟨g,0,none⟩) X.cz.length X.cz.length) X.cz):=hCo.later xaz hbM
  clear hM3 hLk hA3 hMi hCo hHo hR2 hbM hbo hL
  have HRE:Hid (xdf E X st0 s name args=xa1 (⟨E,.slice (some ⟨g,0,none⟩) X.cz.length X.cz.length,X.ez,.func (.func LF) #[] lc,.func (.func QF) #[] qc⟩:Mp σ).E 20 ⟨X.heap,0,0,st0⟩ (xaw (⟨E,.slice (some ⟨g,0,none⟩) X.cz.length X.cz.length,X.ez,.func (.func LF) #[] lc,.func (.func QF) #[] qc⟩:Mp σ).E.cz (xar X.heap s) name).1 (xaw (⟨E,.slice (some ⟨g,0,none⟩) X.cz.length X.cz.length,X.ez,.func (.func LF) #[] lc,.func (.func QF) #[] qc⟩:Mp σ).E.cz (xar X.heap s) name).2 s args):=by
   show xdf E X st0 s name args=xa1 E 20 ⟨X.heap,0,0,st0⟩ (xaw E.cz (xar X.heap s) name).1 (xaw E.cz (xar X.heap s) name).2 s args
   rw[hEc];rfl
  rw[← HRE.out] at hfst;clear HRE;obtain⟨R,hRn⟩:∃ R,xdf E X st0 s name args=R:=⟨_,rfl⟩;rw[hRn] at hfst HPE;clear hRn;obtain⟨rm,v,er⟩:=R;unfold xop at HPE;simp only at HPE;obtain⟨V3,hV3⟩:∃ V3,V3=w2'.alloc (MB (⟨E,.slice (some ⟨g,0,none⟩) X.cz.length X.cz.length,X.ez,.func (.func LF) #[] lc,.func (.func QF) #[] qc⟩:Mp σ) (⟨X.heap,0,0,st0⟩:Mc σ) 0 (.slice (some ⟨gh,0,none⟩) X.heap.length X.heap.length)):=⟨_,rfl⟩;rw[← hV3] at hfst hR3 HBW3 HCo3;have hV3':(w2'.alloc (.cells #[.slice (some ⟨g,0,none⟩) X.cz.length X.cz.length,.slice (some ⟨gh,0,none⟩) X.heap.length X.heap.length,.int .i64 X.ez,.int .i64 fuel,.int .i64 0,.int .i64 0,.int .i64 0,.func (.func LF) #[] lc,.func (.func QF) #[] qc] 112))=V3:=by rw[hV3,← HFU.out]
  have hz3:w2'.heap.size<V3.heap.size:=by rw[hV3];simp
  clear hV3
  go_upto_region 9 with (fail)
  try rw[hV3']
  clear hV3';obtain⟨w0,w1,w2,c0,c1,c2,c3,-⟩:=id hR3;have HMB:Hid (w2'.heap.size<V3.heap.size):=hz3;clear hz3 hq1 hq2 hsf;generalize w2'.heap.size=mb at *;go_wp2_with fail;refine hfst.mono ?_;rintro e w4 ⟨rfl,⟨T4',hX4,⟨hv4,g4,s4,hM4⟩,hL4⟩,hK4⟩;simp only at hM4 hL4;have hR4:=hR3.kp hK4 (fun i hi=>by rw[T4 i hi];unfold All;omega)
  have HB4:Hid (Kp (fun t=>t=3) T0 w w4):=⟨hK4.os.trans HBW3.out.os,hK4.tape.trans HBW3.out.tape,hK4.output.trans HBW3.out.output,qzD HBW3.out.size hK4.size,fun x hx hs=>(hK4.blk x (qzE hx HBW3.out.size) (by rw[TO x hx];have:=hTo x hx;unfold All;omega)).trans (HBW3.out.block x hx)⟩
  have HX4:Hid (Ext T0 T4' w):=hXt.trans HBW3.out.size hX4;have HL4:=hid hL4;have t42:T4' (w.heap.size+2)=4:=by rw[hX4 _ (by have:=hR3.sz;omega)];exact T4 2 (by omega)
  have t43:T4' (w.heap.size+3)=4:=by rw[hX4 _ (by have:=hR3.sz;omega)];exact T4 3 (by omega)
  have hlm4:mb<w4.heap.size:=xaf hM4.box;have hmw:w.heap.size+4<=mb:=by omega
  have HCo4:Hid (xai (fun x=>(T4' x=0\/T4' x=2)/\w.heap.size<=x) w4 (.slice (some ⟨g,0,none⟩) X.cz.length X.cz.length) X.cz):=HCo3.out.keep xaz (Keeps.of_block fun x hx hl=>hK4.blk x hl (by rw[Tc x hx.1 hx.2];unfold All;omega)) fun x hx=>⟨Or.inl (by rw[hX4 x (by have:=HMB.out;have:=hx.2;omega),Tc x hx.1 hx.2]),by have:=hx.1;omega⟩
  have TZ:Hid (∀ x,x<w.heap.size->T4' x=0\/T4' x=3):=fun x hx=>by rw[hX4 x (qzE hx HBW3.out.size),TO x hx];exact hTo x hx
  clear hfst w0 w1 w2 c0 c1 c2 c3 hR3 hX4 hK4 HCo3 TO T4 Tc Th Tm hL4 hXt hkT;have hbv4:=xaj w4 (.cells #[.int .i64 v.k,.int .i64 v.n] 27);have hM5:=hM4.later hbv4;have HCo5:=hid (HCo4.out.later xaz hbv4);have hR5:=hR4.later hbv4;have HB5:=hid (HB4.out.on hbv4);have HL5:=hid (hLo.keep HL4.out (.refl _ _) (Kp.of_below (S:=fun _=>False) hbv4) id id)
  have v0:(w4.alloc (.cells #[.int .i64 v.k,.int .i64 v.n] 27)).cell? ⟨w4.heap.size,0,none⟩=some (.int .i64 v.k):=xaa _ _ _ _ rfl 0;have v1:(w4.alloc (.cells #[.int .i64 v.k,.int .i64 v.n] 27)).cell? ⟨w4.heap.size,1,none⟩=some (.int .i64 v.n):=xaa _ _ _ _ rfl 1;have hsz4:=hR4.sz
  go_upto_region 10 with (fail)
  clear hM4 hR4 hbv4;generalize hv4z:w4.heap.size=vb at *;generalize (w4.alloc (.cells #[.int .i64 v.k,.int .i64 v.n] 27))=V5 at *
  by_cases he:er=0
  ·have he':(er != 0)=false:=by simpa using he
   rw[if_neg (by simpa using he)] at HPE
   clear he;obtain⟨cap4,hv4e,-⟩:=hM5.heap.form;have m0:V5.cell? ⟨mb,0,none⟩=some (.slice (some ⟨g,0,none⟩) X.cz.length X.cz.length):=hM5.c0;have m1:=hM5.c1;have m2:V5.cell? ⟨mb,2,none⟩=some (.int .i64 X.ez):=hM5.c2;have m4:=hM5.c4;rw[hv4e] at m1;have HQ:=hid fun u0 u1 u2 v0 v1 v2 v3=>WiPost.fin hLo (r:=(⟨rm.heap,v,0,rm.sz_⟩,rm.st)) (P:=fun x=>(T4' x=0\/T4' x=2)/\w.heap.size<=x) HB5.out HX4.out HL5.out t42 t43 HCo5.out (hM5.heap.heap.mono xaD fun x hx=>⟨Or.inr hx.2,Nat.le_of_not_lt fun hl=>by have:=TZ.out x hl;rw[hx.2] at this;omega⟩) (fun h=>by have:=h.1;rw[t42] at this;omega) (fun h=>by have:=h.1;rw[t43] at this;omega) (fun x hx=>⟨hx.2,by have:=hx.1;omega⟩) u0 u1 u2 v0 v1 v2 v3
   rw[hv4e] at HQ;obtain⟨w0,w1,w2,c0,c1,c2,c3,a0,a1,a2,af,b0,b1,b2,b3,bf,-⟩:=id hR5;have n1:¬ mb=w.heap.size+2:=by omega
   have n2:¬ mb=w.heap.size+3:=by omega
   have n3:¬ w.heap.size+2=mb:=by omega
   have n4:¬ w.heap.size+3=mb:=by omega
   have n5:¬ vb=w.heap.size+2:=by omega
   have n6:¬ vb=w.heap.size+3:=by omega
   have n7:¬ w.heap.size+2=vb:=by omega
   have n8:¬ w.heap.size+3=vb:=by omega
   clear hM5 hR5 hv4e;simp only[Nat.add_assoc,Nat.reduceAdd] at *;go_wp2
   go_region
   all_goals (
    go_wp2;rw[HPE.out];refine bodyPost_ret (v:=.tuple #[WV (.slice (some ⟨g,0,none⟩) X.cz.length X.cz.length) (.slice (some ⟨g4,0,none⟩) rm.heap.length cap4) X.ez,RnV ⟨rm.heap,v,0,rm.sz_⟩]) ?_ rfl ((HQ.out _ _ _ _ _ _ _).drew hLo)
    simp[results,Tryz.results22,go_sem,a0,a1,a2,b0,b1,b2,b3])
  ·have he':(er != 0)=true:=by simpa using he
   rw[if_pos (by simpa using he)] at HPE
   clear he;have m4:=hM5.c4;have hownD:=hown V5.drew HB5.out.drew;have hS0:EeR w mb (.slice ac X.cz.length cc) (.slice ah X.heap.length ch) X.ez rm.sz_ V5.drew:=⟨hR5.w0,hR5.w1,hR5.w2,m4,by omega⟩
   have hRd:=hR5.later (Below.refl _ V5).drew;have HB6:=hid HB5.out.drew;have HX6:Hid (Ext T0 (xau T4' V5.drew 4) w):=HX4.out.trans HB6.out.size (xao T4' V5.drew 4);have HL6:Hid (L (xau T4' V5.drew 4) V5.drew rm.st _):=hLo.keep HL5.out (fun x hx=>xao T4' V5.drew 4 x hx) (Kp.refl (fun _=>False) _ _).drew id id
   have t62:xau T4' V5.drew 4 (w.heap.size+2)=4:=by rw[xao T4' V5.drew 4 _ (by have:=hRd.sz;omega)];exact t42
   have t63:xau T4' V5.drew 4 (w.heap.size+3)=4:=by rw[xao T4' V5.drew 4 _ (by have:=hRd.sz;omega)];exact t43
   have hV5z:w.heap.size+4<=V5.drew.heap.size:=hRd.sz;clear hM5 hR5 m4;simp only[Nat.add_assoc,Nat.reduceAdd] at *;go_wp2
   go_region_held3 (fun w'=>w'.cell? ⟨w.heap.size,0,none⟩=some (.slice ac X.cz.length cc)/\w'.cell? ⟨w.heap.size,1,none⟩=some (.slice ah X.heap.length ch)/\w'.cell? ⟨w.heap.size,2,none⟩=some (.int .i64 X.ez)/\w'.cell? ⟨mb,4,none⟩=some (.int .i64 rm.sz_))
    (first | with_reducible exact hS0.al | with_reducible exact hY.al | with_reducible exact (((hY.set (Or.inl rfl) _ _).set (Or.inl rfl) _ _).set (Or.inl rfl) _ _).al | with_reducible exact (((((((hY.set (Or.inl rfl) _ _).set (Or.inl rfl) _ _).set (Or.inl rfl) _ _).set (Or.inr rfl) _ _).set (Or.inr rfl) _ _).set (Or.inr rfl) _ _).set (Or.inr rfl) _ _).al | with_reducible exact ((((hY.set (Or.inr rfl) _ _).set (Or.inr rfl) _ _).set (Or.inr rfl) _ _).set (Or.inr rfl) _ _).al)
    (first | (go_at_call 42;refine hownD.mono ?_;rintro e w6 ⟨g',gh',sh',rfl,hCo,hHo,hgh',hbo⟩;have hY:=hS0.later hbo;have HQ:=hid (fun u0 u1 u2 v0 v1 v2 v3=>WiPost.fin hLo (r:=(⟨X.heap,xaU,er,rm.sz_⟩,rm.st)) (P:=fun b=>V5.drew.heap.size<=b) (HB6.out.on hbo) HX6.out (hLo.keep HL6.out (.refl _ _) (Kp.of_below (S:=fun _=>False) hbo) id id) t62 t63 (hCo.mono xaz fun b h=>h.1) ((hHo.isHeap hbyh).mono xaD fun b h=>qzD hgh' h) (by omega) (by omega) (fun x hx=>⟨by omega,by rw[xav hx];omega⟩) u0 u1 u2 v0 v1 v2 v3);obtain⟨-,-,-,-,-,-,-,a0,a1,a2,af,b0,b1,b2,b3,bf,-⟩:=id (hRd.later hbo);clear hCo hHo))
   all_goals (
    go_wp2;rw[HPE.out];refine bodyPost_ret (v:=.tuple #[WV (.slice (some ⟨g',0,none⟩) X.cz.length X.cz.length) (.slice (some ⟨gh',0,none⟩) X.heap.length X.heap.length) X.ez,RnV ⟨X.heap,xaU,er,rm.sz_⟩]) ?_ rfl (HQ.out _ _ _ _ _ _ _)
    simp[results,Tryz.results22,go_sem,a0,a1,a2,b0,b1,b2,b3])
 ·have hz':(ws != 0)=true:=by simpa using hz
  rw[if_pos (by simpa using hz)] at HPE
  clear HWI hz;go_wp2_with fail;refine (hown _ (Kp.of_below HB1.out)).mono ?_;rintro e w2' ⟨g,gh,sh,rfl,hCo,hHo,hgh,hbo⟩;have hR2:=hR1.later hbo;have hsz:=hR1.sz;have HQ:=hid fun u0 u1 u2 v0 v1 v2 v3=>WiPost.fin hLo (r:=(⟨X.heap,xaU,ws,0⟩,st0)) (P:=fun b=>w1'.heap.size<=b) (Kp.of_below (xah HB1.out hbo)) (xao T0 w 4) (hLo.keep hL (xao T0 w 4) (Kp.of_below (S:=fun _=>False) (xah HB1.out hbo)) id id) (xav (by omega)) (xav (by omega)) (hCo.mono xaz fun b h=>h.1) ((hHo.isHeap hbyh).mono xaD fun b h=>by omega) (by omega) (by omega) (fun x hx=>⟨by omega,by rw[xav (by omega)];omega⟩) u0 u1 u2 v0 v1 v2 v3
  clear w0 w1 w2 c0 c1 c2 c3 hCo hHo hown;obtain⟨w0,w1,w2,c0,c1,c2,c3,a0,a1,a2,af,b0,b1,b2,b3,bf,-⟩:=id hR2;go_wp2;rw[HPE.out];refine bodyPost_ret (v:=.tuple #[WV (.slice (some ⟨g,0,none⟩) X.cz.length X.cz.length) (.slice (some ⟨gh,0,none⟩) X.heap.length X.heap.length) X.ez,RnV ⟨X.heap,xaU,ws,0⟩]) ?_ rfl (HQ.out _ _ _ _ _ _ _)
  simp[results,Tryz.results22,go_sem,a0,a1,a2,b0,b1,b2,b3]
section
variable {σ α:Type}
structure Cnt (E:Env σ)(A B:σ->Nat):Prop where
 a:∀ st s c nm,A (E.look st s c nm).1=A st+1
 b:∀ st s c nm,B (E.look st s c nm).1=B st\/(B (E.look st s c nm).1=B st+1/\xaO E.cz (E.look st s c nm).2.1 (E.look st s c nm).2.2=none)
structure StInv (A B:σ->Nat)(k:Int)(m:Mc σ)(r:Mc σ × α × Int):Prop where
 good:r.2.2=0->(A r.1.st:Int)+m.sz_+k<=A m.st+r.1.sz_/\B r.1.st=B m.st
 bad:r.2.2≠0->(A r.1.st:Int)+m.sz_+k<=A m.st+r.1.sz_+1/\(B r.1.st=B m.st\/(r.2.2=10/\B r.1.st=B m.st+1))
theorem StInv.of {A B:σ->Nat}{m:Mc σ}{r:Mc σ × α × Int}(h1:r.1.st=m.st)(h2:m.sz_<=r.1.sz_):StInv A B 0 m r:=⟨fun _=>by rw[h1];exact⟨by omega,rfl⟩,fun _=>by rw[h1];exact⟨by omega,Or.inl rfl⟩⟩
theorem xd9 (m:Mc σ)(f:Fr)(a b:Int):(xaX m f a b).1.st=m.st/\(xaX m f a b).1.sz_=m.sz_:=by
 unfold xaX
 by_cases h:b<=a
 ·simp only[h,if_true];split<;>exact⟨rfl,rfl⟩
 ·simp only[h,if_false];split<;>exact⟨rfl,rfl⟩
theorem xeF (E:Env σ)(d:Nat)(m:Mc σ):(xay E d m).1.st=m.st/\m.sz_<=(xay E d m).1.sz_/\((xay E d m).2=0->(xay E d m).1.sz_=m.sz_+1):=by
 unfold xay
 split
 ·exact⟨rfl,by simp,fun h=>by cases h⟩
 ·split
  ·exact⟨rfl,by simp,fun h=>by cases h⟩
  ·exact⟨rfl,by simp;omega,fun _=>rfl⟩
def xiL (A B:σ->Nat)(ent:Ent σ)(E:Env σ):Prop:=∀ m c n s a,StInv A B 1 m (ent m c n s a)/\(xaO E.cz c n=none->ent m c n s a=(m,xaU,10))
theorem xlW {A B:σ->Nat}{E:Env σ}(hC:Cnt E A B){ent:Ent σ}(he:xiL A B ent E)(d:Nat)(m:Mc σ)(f:Fr)(a:Int)(x:QI):StInv A B 0 m (xan ent E d m f a x):=by
 have self:∀ (g:Fr) (e:Int),StInv A B 0 m (m,g,e):=fun g e=>.of rfl (Int.le_refl _)
 unfold xan
 split
 ·exact self _ _
 ·split
  ·exact self _ _
  ·split
   ·exact self _ _
   ·split
    ·exact self _ _
    ·split
     ·exact .of rfl (Int.le_refl _)
     ·split
      ·unfold xbQ;split
       ·exact self _ _
       ·exact .of rfl (Int.le_refl _)
      ·split
       ·unfold xcm;simp only;generalize xbu f.stack x.a=k;have ha:=hC.a m.st (f.site a x) (xar m.heap (xaW (f.stack.take k) 0)) x.name;have hb:=hC.b m.st (f.site a x) (xar m.heap (xaW (f.stack.take k) 0)) x.name;generalize E.look m.st (f.site a x) (xar m.heap (xaW (f.stack.take k) 0)) x.name=l at ha hb ⊢;obtain⟨h1,h2⟩:=he { m with st:=l.1 } l.2.1 l.2.2 (xaW (f.stack.take k) 0) (f.stack.drop k)
        generalize ent { m with st:=l.1 } l.2.1 l.2.2 (xaW (f.stack.take k) 0) (f.stack.drop k)=r at h1 h2 ⊢
        rcases hb with hb | ⟨hb,hn⟩
        ·by_cases h0:r.2.2=0
         ·rw[if_neg (by simpa using h0)]
          have:=h1.good h0;simp only at this
          exact⟨fun _=>⟨by simp only;omega,by rw[this.2];exact hb⟩,fun h=>absurd rfl h⟩
         ·rw[if_pos h0];have:=h1.bad h0;simp only at this;refine⟨fun h=>absurd h h0,fun _=>⟨by simp only;omega,?_⟩⟩
          rcases this.2 with h | ⟨h,h'⟩
          ·exact Or.inl (h.trans hb)
          ·exact Or.inr ⟨h,by rw[h',hb]⟩
        ·have e:=h2 hn;subst e;rw[if_pos (by simp)]
         exact⟨(fun h=>by cases h),fun _=>⟨by simp only;omega,Or.inr ⟨rfl,hb⟩⟩⟩
       ·split
        ·have:=xd9 m f a x.a
         exact .of this.1 (by rw[this.2];exact Int.le_refl _)
        ·split
         ·unfold xbr
          split
          ·exact self _ _
          ·split
           ·have:=xd9 m f.pop a x.a
            exact .of this.1 (by rw[this.2];exact Int.le_refl _)
           ·exact self _ _
         ·unfold xcl
          split
          ·exact self _ _
          ·split
           ·exact self _ _
           ·split
            ·exact self _ _
            ·split
             ·exact .of rfl (Int.le_refl _)
             ·split
              ·have:=xeF E d m
               exact .of this.1 this.2.1
              ·exact self _ _
theorem xlc {A B:σ->Nat}{E:Env σ}(hC:Cnt E A B){ent:Ent σ}(he:xiL A B ent E)(d:Nat):∀ (g:Nat) (m:Mc σ) (f:Fr),StInv A B 0 m (xcL ent E d g m f)
 | 0,m,f=>.of rfl (Int.le_refl _)
 | g+1,m,f=>by
  unfold xcL;generalize (if f.pc<0 then none else f.code[f.pc.toNat]?)=q
  cases q with
  | none=>exact .of rfl (Int.le_refl _)
  | some x=>
   simp only[]
   by_cases h17:x.op=17
   ·rw[if_pos h17];exact .of rfl (Int.le_refl _)
   ·rw[if_neg h17];have hs:=xlW hC he d m { f with pc:=f.pc+1 } f.pc x
    generalize xan ent E d m { f with pc:=f.pc+1 } f.pc x=r at hs ⊢
    by_cases h0:r.2.2=0
    ·rw[if_neg (by simpa using h0)]
     have ih:=xlc hC he d g r.1 r.2.1;obtain⟨i1,i2⟩:=hs.good h0;refine⟨fun h=>?_,fun h=>?_⟩
     ·obtain⟨j1,j2⟩:=ih.good h
      exact⟨by omega,j2.trans i2⟩
     ·obtain⟨j1,j2⟩:=ih.bad h;refine⟨by omega,?_⟩
      rcases j2 with j | ⟨j,j'⟩
      ·exact Or.inl (j.trans i2)
      ·exact Or.inr ⟨j,by rw[j',i2]⟩
    ·rw[if_pos h0]
     exact⟨fun h=>absurd h h0,fun _=>hs.bad h0⟩
theorem xhh {A B:σ->Nat}{E:Env σ}(d:Nat){body:Mc σ->Fr->Mc σ × QV × Int}(hb:∀ m f,StInv A B 0 m (body m f)):xiL A B (xbj E d body) E:=fun m c n s a=>by
 have self:∀ (v:QV) (e:Int),e≠0->StInv A B 1 m (m,v,e):=fun v e he=>⟨fun h=>absurd h he,fun _=>⟨by simp only;omega,Or.inl rfl⟩⟩
 unfold xbj
 cases xaO E.cz c n with
 | none=>exact⟨self _ _ (by omega),fun _=>rfl⟩
 | some mt=>
  refine⟨?_,fun h=>by cases h⟩
  simp only
  split
  ·exact self _ _ (by omega)
  ·split
   ·split
    ·exact self _ _ (by omega)
    ·exact⟨fun _=>⟨by simp only;omega,rfl⟩,fun _=>⟨by simp only;omega,Or.inl rfl⟩⟩
   ·obtain⟨c1,c2,c3⟩:=xeF E d m
    split
    ·rename_i h;exact self _ _ h
    ·rename_i h;have h0:(xay E d m).2=0:=by simpa using h
     have c4:=c3 h0;have ih:=hb (xay E d m).1 (xaG E c n mt s a);generalize body (xay E d m).1 (xaG E c n mt s a)=r at ih ⊢;refine⟨fun h=>?_,fun h=>?_⟩
     ·obtain⟨j1,j2⟩:=ih.good h;rw[c1] at j1 j2
      exact⟨by omega,j2⟩
     ·obtain⟨j1,j2⟩:=ih.bad h;rw[c1] at j1 j2
      exact⟨by omega,j2⟩
theorem xjW {A B:σ->Nat}{E:Env σ}(hC:Cnt E A B):∀ d,xiL A B (xa1 E d) E
 | 0=>xhh 0 fun m f=>.of rfl (Int.le_refl _)
 | d+1=>xhh (d+1) fun m f=>xlc hC (xjW hC d) d _ m f
end
theorem xew:∀ (x y z:List UInt8),Op.bytesLess x y=true->Op.bytesLess y z=true->Op.bytesLess x z=true
 | [],[],z,h,_=>by simp[Op.bytesLess] at h
 | [],b :: y,[],_,k=>by simp[Op.bytesLess] at k
 | [],b :: y,c :: z,_,_=>by simp[Op.bytesLess]
 | a :: x,[],z,h,_=>by simp[Op.bytesLess] at h
 | a :: x,b :: y,[],_,k=>by simp[Op.bytesLess] at k
 | a :: x,b :: y,c :: z,h,k=>by
  simp only[Op.bytesLess,Bool.or_eq_true,decide_eq_true_eq,Bool.and_eq_true,beq_iff_eq] at h k ⊢
  rcases h with h | ⟨rfl,h⟩
  ·rcases k with k | ⟨rfl,k⟩
   ·exact Or.inl (UInt8.lt_trans h k)
   ·exact Or.inl h
  ·rcases k with k | ⟨rfl,k⟩
   ·exact Or.inl k
   ·exact Or.inr ⟨rfl,xew x y z h k⟩
theorem xeO:∀ (x:List UInt8),Op.bytesLess x x=false
 | []=>rfl
 | a :: x=>by simp[Op.bytesLess,xeO x]
theorem xi0:∀ (x y:List UInt8),Op.bytesLess x y=true\/x=y\/Op.bytesLess y x=true
 | [],[]=>Or.inr (Or.inl rfl)
 | [],b :: y=>Or.inl (by simp[Op.bytesLess])
 | a :: x,[]=>Or.inr (Or.inr (by simp[Op.bytesLess]))
 | a :: x,b :: y=>by
  simp only[Op.bytesLess,Bool.or_eq_true,decide_eq_true_eq,Bool.and_eq_true,beq_iff_eq]
  rcases UInt8.lt_or_lt_of_ne (a:=a) (b:=b) |> fun h=>(Classical.em (a=b)).elim (fun e=>Or.inr e) (fun e=>Or.inl (h e)) with (h | h) | rfl
  ·exact Or.inl (Or.inl h)
  ·exact Or.inr (Or.inr (Or.inl h))
  ·rcases xi0 x y with h | rfl | h
   ·exact Or.inl (Or.inr ⟨rfl,h⟩)
   ·exact Or.inr (Or.inl rfl)
   ·exact Or.inr (Or.inr (Or.inr ⟨rfl,h⟩))
theorem xnB {a b:ByteArray}:gtN a b=true ↔ ltN b a=true:=by
 unfold gtN ltN
 constructor
 ·intro h;simp only[Bool.and_eq_true,Bool.not_eq_true',beq_eq_false_iff_ne] at h
  rcases xi0 a.toList b.toList with k | k | k
  ·rw[h.1] at k;cases k
  ·exact absurd k (by simpa using h.2)
  ·exact k
 ·intro h
  have h1:Op.bytesLess a.toList b.toList=false:=by
   cases k:Op.bytesLess a.toList b.toList
   ·rfl
   ·have:=xew _ _ _ h k;rw[xeO] at this;cases this
  have h2:¬ a.toList=b.toList:=fun e=>by rw[e,xeO] at h;cases h
  simp[h1,h2]
theorem xeK {a b:ByteArray}:eqN a b=true ↔ a.toList=b.toList:=by simp[eqN]
theorem xoV {a b c:ByteArray}(h:eqN a b=true)(k:ltN a c=true):ltN b c=true:=by
 unfold ltN at k ⊢;rw[← xeK.1 h];exact k
theorem xff {a b c:ByteArray}(h:ltN a b=true)(k:ltN b c=true):ltN a c=true:=xew _ _ _ h k
theorem xd3 {a b:ByteArray}(h:ltN b a=true):eqN a b=false:=by
 cases k:eqN a b
 ·rfl
 ·unfold ltN at h;rw[xeK.1 k,xeO] at h;cases h
theorem xep {X:QW}{j:Nat}{ms:List QM}(h:∀ i y,ms[i]?=some y->rmE X j ms i y=0):∀ (e i:Nat) (a b:QM),ms[i]?=some a->ms[i+e+1]?=some b->ltN a.name b.name=true
 | 0,i,a,b,ha,hb=>by
  have h1:=h (i+1) b hb;unfold rmE at h1
  split at h1
  ·cases h1
  ·rename_i h2;simp only[xdQ,ha] at h2
   simpa using h2
 | e+1,i,a,b,ha,hb=>by
  have hlt:=xae hb;obtain⟨p,hp⟩:∃ p,ms[i+e+1]?=some p:=⟨_,List.getElem?_eq_getElem (by omega)⟩
  have h1:=h (i+(e+1)+1) b hb;unfold rmE at h1
  split at h1
  ·cases h1
  ·rename_i h2;have e1:ms[i+(e+1)]?=some p:=hp;simp only[xdQ,e1] at h2
   exact xff (xep h e i a p ha hp) (by simpa using h2)
theorem xhw {X:QW}(hX:xaJ X=0){c k n:Int}{a b:QM}(ha:xaO X.cz c k=some a)(hb:xaO X.cz c n=some b)(hn:a.name=b.name):a=b:=by
 obtain⟨kc,kk,x,rfl,rfl,hx,hak⟩:=xej ha;obtain⟨kc',kn,x',e1,rfl,hx',hbn⟩:=xej hb;have:kc'=kc:=by omega
 subst this;rw[hx] at hx'
 cases hx'
 obtain⟨-,-,hM,-⟩:=xbE hX;have h1:=hM kc' x (xae hx) hx;unfold rkE at h1
 split at h1
 ·cases h1
 ·split at h1
  ·cases h1
  ·have hall:=xbH h1
   rcases Nat.lt_trichotomy kk kn with hlt | heq | hgt
   ·have:=xep hall (kn-kk-1) kk a b hak (by rw[show kk+(kn-kk-1)+1=kn by omega];exact hbn)
    have h2:=xd3 this;rw[hn,xeK.2 rfl] at h2
    cases h2
   ·subst heq;rw[hak] at hbn
    cases hbn
    rfl
   ·have:=xep hall (kk-kn-1) kn b a hbn (by rw[show kn+(kk-kn-1)+1=kk by omega];exact hak)
    have h2:=xd3 this;rw[hn,xeK.2 rfl] at h2
    cases h2
def xcW (cs:List QC)(s:QS)(nm:ByteArray):Prop:=∃ n mt,∃ k:Nat,∃ x,xaO cs s.cls n=some mt/\mt.name=s.name/\s.at'=(k:Int)/\mt.code[k]?=some x/\x.op=14/\x.name=nm
theorem xmz {X:QW}(hX:xaJ X=0){s:QS}{a b:ByteArray}(ha:xcW X.cz s a)(hb:xcW X.cz s b):a=b:=by
 obtain⟨n,mt,k,x,h1,h2,h3,h4,-,rfl⟩:=ha;obtain⟨n',mt',k',x',h1',h2',h3',h4',-,rfl⟩:=hb;obtain rfl:mt=mt':=xhw hX h1 h1' (by rw[h2,h2'])
 obtain rfl:k=k':=by omega
 rw[h4] at h4'
 cases h4'
 rfl
theorem xmI:(Tryz.prog.info? 97).map (fun i=>(i.zero,i.size,i.bytes))=some (some (.agg #[.int .i64 0,.string ⟨#[]⟩,.int .i64 0,.slice none 0 0]),4,56):=by kernel_rfl
theorem xg9 (n:Nat)(hb:n*56<=281474976710656):xey 32 97 #[.int .i64 0,.string ⟨#[]⟩,.int .i64 0,.slice none 0 0] 4 n:=fun w=>xgj Tryz.underlying32 xmI (by omega) n hb rfl w
structure OwnT (w:World)(B:Nat)(xs:List QT)(j:Nat)(gs:Nat->Nat):Prop where
 row:∃ cur:Array Value,w.heap[B]?=some (.cells cur 97 (0,0))/\cur.size=xs.length*4
 rise:∀ i k,i<k->k<j->gs i<gs k
 reach:∀ i,i<j->B<gs i/\gs i<w.heap.size
 lz:∀ i x,i<j->xs[i]?=some x->OwnSt xda 2 72 w (gs i) x.lz x.lz.length
 cells:∀ i x,i<j->xs[i]?=some x->w.cell? ⟨B,i*4+0,none⟩=some (.int .i64 x.site.cls)/\w.cell? ⟨B,i*4+1,none⟩=some (.string x.site.name)/\w.cell? ⟨B,i*4+2,none⟩=some (.int .i64 x.site.at')/\w.cell? ⟨B,i*4+3,none⟩=some (.slice (some ⟨gs i,0,none⟩) x.lz.length x.lz.length)
theorem OwnT.later {w w':World}{B:Nat}{xs:List QT}{j:Nat}{gs:Nat->Nat}(h:OwnT w B xs j gs)(hb:Below w.heap.size w w'):OwnT w' B xs j gs where
 row:=by
  obtain⟨cur,h1,h2⟩:=h.row
  exact⟨cur,by rw[hb.block _ (xaf h1)];exact h1,h2⟩
 rise:=h.rise
 reach:=fun i hi=>⟨(h.reach i hi).1,qzE (h.reach i hi).2 hb.size⟩
 lz:=fun i x hi hx=>(h.lz i x hi hx).later xbq hb
 cells:=fun i x hi hx=>by
  obtain⟨h0,h1,h2,h3⟩:=h.cells i x hi hx
  exact⟨qzA hb h0,qzA hb h1,qzA hb h2,qzA hb h3⟩
theorem OwnT.start (w:World)(xs:List QT)(c:Array Value)(hc:c.size=xs.length*4):OwnT (w.alloc (.cells c 97)) w.heap.size xs 0 (fun _=>0):=
 ⟨⟨c,heap_alloc_new w _,hc⟩,fun _ _ _ h=>by omega,fun _ h=>by omega,fun _ _ h=>by omega,fun _ _ h=>by omega⟩
theorem OwnSt.ofBlock {α:Type}{E:Lay α}{sz:Nat}(G:Good E sz){t:TypeId}{w w':World}{B:Nat}{xs:List α}{j:Nat}(h:OwnSt E sz t w B xs j)(hs:w.heap.size<=w'.heap.size)(hb:∀ b,B<=b->b<w.heap.size->w'.heap[b]?=w.heap[b]?):OwnSt E sz t w' B xs j:=by
 obtain⟨⟨cur,h1,h2⟩,h3⟩:=h;have hB:=xaf h1;refine⟨⟨cur,by rw[hb _ (qzC _) hB];exact h1,h2⟩,fun i x hi hx=>?_⟩
 refine G.move (h3 i x hi hx) (fun b h=>⟨h.1,by omega⟩) (.of_block fun b h1 h2=>hb b (by omega) h2) fun k hk v hv=>?_
 unfold World.cell? at hv ⊢;rw[hb _ (qzC _) hB]
 exact hv
theorem OwnT.step {w:World}{B:Nat}{xs:List QT}{j:Nat}{gs:Nat->Nat}{x:QT}{g:Nat}(h:OwnT w B xs j gs)(hx:xs[j]?=some x)(hg:∀ i,i<j->gs i<g)(hB:B<g)(hgl:g<w.heap.size)(hl:OwnSt xda 2 72 w g x.lz x.lz.length) :
  OwnT (w.setCells B (j*4) [.int .i64 x.site.cls,.string x.site.name,.int .i64 x.site.at',.slice (some ⟨g,0,none⟩) x.lz.length x.lz.length]) B xs (j+1) (fun i=>if i=j then g else gs i):=by
 have hj:=xae hx;obtain⟨cur,h1,h2⟩:=h.row;have hz:=xbh (B:=B) [.int .i64 x.site.cls,.string x.site.name,.int .i64 x.site.at',.slice (some ⟨g,0,none⟩) x.lz.length x.lz.length] (j*4) w;have hin:=fun k (hk:k<4)=>World.cell?_setCells_in B [.int .i64 x.site.cls,.string x.site.name,.int .i64 x.site.at',.slice (some ⟨g,0,none⟩) x.lz.length x.lz.length] (j*4) w (fun q hq=>by rw[qzB h1];simp at hq;simp;omega) k (by simpa using hk)
 have hel:∀ b,b≠B->(w.setCells B (j*4) [.int .i64 x.site.cls,.string x.site.name,.int .i64 x.site.at',.slice (some ⟨g,0,none⟩) x.lz.length x.lz.length]).heap[b]?=w.heap[b]?:=fun b hb=>xaI hb _ _ _
 have hout:∀ i k,i<j->k<4->(w.setCells B (j*4) [.int .i64 x.site.cls,.string x.site.name,.int .i64 x.site.at',.slice (some ⟨g,0,none⟩) x.lz.length x.lz.length]).cell? ⟨B,i*4+k,none⟩=w.cell? ⟨B,i*4+k,none⟩:=fun i k hi hk=>by
  rw[World.cell?_setCells_out B _ (j*4) w _ (fun _ _=>Or.inl ?_)]
  simp;omega
 constructor
 ·exact xbJ _ _ w ⟨cur,h1,h2⟩
 ·intro i k hik hk
  by_cases hkj:k=j
  ·simp only[hkj,if_true];rw[if_neg (by omega)];exact hg i (by omega)
  ·rw[if_neg hkj,if_neg (by omega)];exact h.rise i k hik (by omega)
 ·intro i hi;rw[hz]
  by_cases hij:i=j
  ·simp only[hij,if_true];exact⟨hB,hgl⟩
  ·rw[if_neg hij];exact h.reach i (by omega)
 ·intro i y hi hy
  by_cases hij:i=j
  ·subst hij;rw[hx] at hy;cases hy;simp only[if_true]
   exact hl.ofBlock xbq (by rw[hz];exact qzC _) fun b hb _=>hel b (by omega)
  ·rw[if_neg hij];have hr:=(h.reach i (by omega)).1
   exact (h.lz i y (by omega) hy).ofBlock xbq (by rw[hz];exact qzC _) fun b hb _=>hel b (by omega)
 ·intro i y hi hy
  by_cases hij:i=j
  ·subst hij;rw[hx] at hy;cases hy;simp only[if_true]
   exact⟨hin 0 (by omega),hin 1 (by omega),hin 2 (by omega),hin 3 (by omega)⟩
  ·rw[if_neg hij,hout i 0 (by omega) (by omega),hout i 1 (by omega) (by omega),hout i 2 (by omega) (by omega),hout i 3 (by omega) (by omega)]
   exact h.cells i y (by omega) hy
theorem OwnSt.isLines {w:World}{g:Nat}{ls:List QL}(h:OwnSt xda 2 72 w g ls ls.length)(hm:ls.length<=maxLen){P:Nat->Prop}(hP:P g):xbI P w (.slice (some ⟨g,0,none⟩) ls.length ls.length) ls:=by
 obtain⟨⟨cur,h1,h2⟩,h3⟩:=h;refine⟨_,_,rfl,qzC _,hm,by simp,fun i x hx=>⟨g,0,rfl,hP,?_⟩⟩
 have:=h3 i x (xae hx) hx;simp only[Nat.zero_add]
 exact this
theorem OwnT.tallies {w:World}{B:Nat}{xs:List QT}{gs:Nat->Nat}(h:OwnT w B xs xs.length gs)(hm:xs.length<=maxLen)(hl:∀ x∈xs,x.lz.length<=maxLen){P:Nat->Prop}(hP:∀ b,B<=b->b<w.heap.size->P b):xbc P w (.slice (some ⟨B,0,none⟩) xs.length xs.length) xs:=by
 obtain⟨cur,h1,h2⟩:=h.row;refine⟨_,_,rfl,qzC _,hm,by simp,fun i x hx=>⟨B,0,rfl,hP _ (qzC _) (xaf h1),?_⟩⟩
 have hi:=xae hx;obtain⟨c0,c1,c2,c3⟩:=h.cells i x hi hx;have hr:=h.reach i hi;simp only[Nat.zero_add]
 exact⟨c0,c1,c2,_,c3,(h.lz i x hi hx).isLines (hl x (List.mem_of_getElem? hx)) (hP _ (by omega) hr.2)⟩
structure BoxT (w:World)(b:Nat)(x:QT)(lv:Value):Prop where
 c0:w.cell? ⟨b,0,none⟩=some (.int .i64 x.site.cls)
 c1:w.cell? ⟨b,1,none⟩=some (.string x.site.name)
 c2:w.cell? ⟨b,2,none⟩=some (.int .i64 x.site.at')
 c3:w.cell? ⟨b,3,none⟩=some lv
theorem BoxT.later {w w':World}{b:Nat}{x:QT}{lv:Value}(h:BoxT w b x lv)(hb:Below w.heap.size w w'):BoxT w' b x lv:=⟨qzA hb h.c0,qzA hb h.c1,qzA hb h.c2,qzA hb h.c3⟩
theorem BoxT.set {w:World}{b:Nat}{x:QT}{lv:Value}(h:BoxT w b x lv){a:Addr}(ha:b≠a.block)(u:Value):BoxT (w.setCell a u) b x lv:=by
 have hn:∀ k,a≠(⟨b,k,none⟩:Addr):=fun k e=>ha (by rw[e])
 exact⟨by rw[World.cell?_setCell_other _ _ _ _ (hn 0)];exact h.c0,by rw[World.cell?_setCell_other _ _ _ _ (hn 1)];exact h.c1,by rw[World.cell?_setCell_other _ _ _ _ (hn 2)];exact h.c2,by rw[World.cell?_setCell_other _ _ _ _ (hn 3)];exact h.c3⟩
theorem BoxT.all {w:World}{b:Nat}{x:QT}{lv:Value}(h:BoxT w b x lv):w.cell? ⟨b,0,none⟩=some (.int .i64 x.site.cls)/\w.cell? ⟨b,1,none⟩=some (.string x.site.name)/\w.cell? ⟨b,2,none⟩=some (.int .i64 x.site.at')/\w.cell? ⟨b,3,none⟩=some lv:=⟨h.c0,h.c1,h.c2,h.c3⟩
theorem xlL (w:World)(x:QT)(lv:Value)(t:TypeId):BoxT (w.alloc (.cells #[.int .i64 x.site.cls,.string x.site.name,.int .i64 x.site.at',lv] t)) w.heap.size x lv:=⟨by rw[xaa _ _ _ _ rfl];rfl,by rw[xaa _ _ _ _ rfl];rfl,by rw[xaa _ _ _ _ rfl];rfl,by rw[xaa _ _ _ _ rfl];rfl⟩
theorem xgF {P:Nat->Prop}(xs:List QT)(v:Value)(w:World)(hh:xbc P w v xs)(hby:xs.length*56<=281474976710656)(hls:∀ x∈xs,x.lz.length*16<=281474976710656):Calls Tryz.prog 21 #[v] w fun e w'=>∃ g gs,e=.returned (.slice (some ⟨g,0,none⟩) xs.length xs.length)/\OwnT w' g xs xs.length gs/\w.heap.size<=g/\Below w.heap.size w w':=by
 obtain⟨ad,cap,rfl,hl,hcap,-,hrow⟩:=hh;have hmk:=xg9 xs.length hby;go_enter Tryz.func21,Tryz.ntmps21;go_wp2
 go_loopg [11] xs.length (fun g c wr=>∃ (j:Nat) (gs:Nat->Nat),j+g=xs.length/\c=.int .i64 j/\Below w.heap.size w wr/\OwnT wr w.heap.size xs j gs/\w.heap.size<wr.heap.size)
 case atStart=>exact⟨0,_,by omega,rfl,xaj _ _,OwnT.start _ _ _ (size_madeCells _ _),by simp⟩
 case round=>
  obtain⟨j,gs,hj,rfl,hbel,hst,hz⟩:=hrel;clear hmk
  by_cases hlt:j<xs.length
  ·obtain⟨b,o,rfl,-,hv0,hv1,hv2,sv,hv3,hsl⟩:=hrow j xs[j] (by simp[hlt])
   have hxj:Hid (xs[j]?=some xs[j]):=by show _=_;simp[hlt]
   have hlj:=hls xs[j] (by simp)
   generalize xs[j]=x at *;simp only[Nat.add_zero] at hv0;have u0:=qzA hbel hv0;have u1:=qzA hbel hv1;have u2:=qzA hbel hv2;have u3:=qzA hbel hv3;have hsl2:=hsl.later xbq hbel;obtain⟨ad2,cap2,rfl,-,-,-,-⟩:=id hsl2;clear hv0 hv1 hv2 hv3 hsl hrow;have hj1:(j:Int)<(xs.length:Int):=by omega
   have hj0:(0:Int)<=(j:Int):=by omega
   go_wp2;have hbx:=(xlL wr x (.slice ad2 x.lz.length cap2) 97);have hW1:=xaj wr (Obj.cells #[Value.int .i64 x.site.cls,Value.string x.site.name,Value.int .i64 x.site.at',Value.slice ad2 x.lz.length cap2] 97);have hIV:=hsl2.later xbq hW1;have hst1:=hst.later hW1;have hbel1:=hbel.trans (hW1.mono (by omega))
   have hzz:(wr.alloc (Obj.cells #[Value.int .i64 x.site.cls,Value.string x.site.name,Value.int .i64 x.site.at',Value.slice ad2 x.lz.length cap2] 97)).heap.size=wr.heap.size+1:=by simp
   have hreach:=hst.reach;clear hsl2 hst u0 u1 u2 u3;generalize (wr.alloc (Obj.cells #[Value.int .i64 x.site.cls,Value.string x.site.name,Value.int .i64 x.site.at',Value.slice ad2 x.lz.length cap2] 97))=W1 at *;generalize wr.heap.size=B1 at *;have hbx1:=hbx.later (Below.refl _ W1).drew;have c0:=hbx1.c0;have c1:=hbx1.c1;have c2:=hbx1.c2;have c3:=hbx1.c3;have hIV1:=hIV.later xbq (Below.refl _ W1).drew;have hst2:=hst1.later (Below.refl _ W1).drew
   go_region_held3 (fun w'=>w'.cell? ⟨B1,0,none⟩=some (.int .i64 x.site.cls)/\w'.cell? ⟨B1,1,none⟩=some (.string x.site.name)/\w'.cell? ⟨B1,2,none⟩=some (.int .i64 x.site.at')/\w'.cell? ⟨B1,3,none⟩=some (Value.slice ad2 x.lz.length cap2))
    (first | exact hbx1.all | exact d1.all | exact ((((d1.set (by simp;omega) _).set (by simp;omega) _).set (by simp;omega) _).set (by simp;omega) _).all)
    (first | (go_at_call 40;refine (xge x.lz _ _ hIV1 hlj).mono ?_;rintro e w1 ⟨g,rfl,hown,hg,hb1⟩;have hst3:=hst2.later hb1;obtain⟨cur,k1,k2⟩:=id hst3.row;have f1:∀ o,w1.frozen? ⟨w.heap.size,o,none⟩=false:=fun o=>(by simp[World.frozen?,k1]);have d1:=hbx1.later hb1;have e0:w1.cell? ⟨w.heap.size,j*4,none⟩=some (cur[j*4]'(by omega)):=(by rw[qzB k1];simp);have e1:w1.cell? ⟨w.heap.size,j*4+1,none⟩=some (cur[j*4+1]'(by omega)):=(by rw[qzB k1];simp);have e2:w1.cell? ⟨w.heap.size,j*4+2,none⟩=some (cur[j*4+2]'(by omega)):=(by rw[qzB k1];simp);have e3:w1.cell? ⟨w.heap.size,j*4+3,none⟩=some (cur[j*4+3]'(by omega)):=(by rw[qzB k1];simp)))
   go_wp2
   go_roundg (gk-1)
   case measure=>omega
   case rel=>
    have hlt1:w.heap.size<w1.heap.size:=qzE (by simp;omega) hb1.size
    have hg':W1.heap.size<=g:=by simpa using hg
    refine⟨j+1,(fun i=>if i=j then g else gs i),by omega,by go_num,((((hbel1.drew.trans (hb1.mono (by simp;omega))).setCell (qzC _) _).setCell (qzC _) _).setCell (qzC _) _).setCell (qzC _) _,?_,by simp;omega⟩
    refine hst3.step hxj.out (g:=g) ?_ ?_ ?_ hown
    ·intro i hi;have:=(hreach i hi).2;omega
    ·omega
    ·obtain⟨cur',q1,-⟩:=hown.1;exact xaf q1
  ·obtain rfl:j=xs.length:=by omega
   go_wp2
   go_ret
   exact⟨_,_,rfl,hst,qzC _,hbel⟩
end Go.Proofs.YtapbeiccodnniaaGreat
