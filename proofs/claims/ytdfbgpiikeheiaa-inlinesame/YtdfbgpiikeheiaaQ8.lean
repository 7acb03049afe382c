/- A part. -/
import Derived.Test.YtdfbgpiikeheiaaQ7
namespace Go.Proofs.Ytdfbgpiikeheiaa
open Go.ChangeShapes Go.WideShapes Go.ChangeAt Go.RowKit
set_option linter.unusedSimpArgs false
set_option linter.unusedVariables false
set_option maxHeartbeats 8000000
set_option maxRecDepth 8000
def LfPost (w:World)(st:Option QM)(e:Ending)(w':World):Prop:=
 ∃ m a c,e=.returned (.tuple #[MV m (.slice a m.code.length c),.bool st.isSome])/\(∀ m',st=some m'->m=m')/\xaR (fun b=>b<w.heap.size) w' (.slice a m.code.length c) m.code/\Below w.heap.size w w'
theorem LfPost.drew {w w':World}{st:Option QM}{e:Ending}(h:LfPost w st e w'):LfPost w st e w'.drew:=by
 obtain⟨m,a,c,h1,h2,h3,h4⟩:=h
 exact⟨m,a,c,h1,h2,h3.later xa2 (qzL _ _).drew,h4.drew⟩
theorem xmR {w U:World}{st:Option QM}{m:QM}{a:Option Addr}{c:Nat}{b:Bool}(hst:st=if b then some m else none)(hb:Below w.heap.size w U)(hco:xaR (fun b=>b<w.heap.size) U (.slice a m.code.length c) m.code):LfPost w st (.returned (.tuple #[MV m (.slice a m.code.length c),.bool b])) (xk4 U (w.heap.size+2) (.string m.name) (.int .i64 m.args) (.int .i64 m.temps) (.int .i64 m.prim) (.slice a m.code.length c)):=by
 refine⟨m,a,c,?_,?_,hco.keep xa2 (Keeps.of_block fun b hb _=>blk5 (by omega)) fun _ h=>h,bel5 hb (by omega)⟩
 ·cases b<;>simp[hst]
 ·intro m' h;rw[hst] at h
  cases b
  ·cases h
  ·cases h;rfl
abbrev zM0:QM:=⟨⟨#[]⟩,0,0,0,[]⟩
theorem xpy {w U:World}(hb:Below w.heap.size w U):LfPost w none (.returned (.tuple #[MV zM0 (.slice none 0 0),.bool false])) (xk4 U (w.heap.size+2) (.string ⟨#[]⟩) (.int .i64 0) (.int .i64 0) (.int .i64 0) (.slice none 0 0)):=
 xmR (m:=zM0) (a:=none) (c:=0) (b:=false) rfl hb xbn
structure LfB (w:World)(cv hv:Value)(ep:Int)(x:QI)(w':World):Prop where
 w0:w'.cell? ⟨w.heap.size,0,none⟩=some cv
 w1:w'.cell? ⟨w.heap.size,1,none⟩=some hv
 w2:w'.cell? ⟨w.heap.size,2,none⟩=some (.int .i64 ep)
 x0:w'.cell? ⟨w.heap.size+1,0,none⟩=some (.int .i64 x.op)
 x1:w'.cell? ⟨w.heap.size+1,1,none⟩=some (.int .i64 x.a)
 x4:w'.cell? ⟨w.heap.size+1,4,none⟩=some (.string x.name)
 z0:w'.cell? ⟨w.heap.size+2,0,none⟩=some (.string ⟨#[]⟩)
 z1:w'.cell? ⟨w.heap.size+2,1,none⟩=some (.int .i64 0)
 z2:w'.cell? ⟨w.heap.size+2,2,none⟩=some (.int .i64 0)
 z3:w'.cell? ⟨w.heap.size+2,3,none⟩=some (.int .i64 0)
 z4:w'.cell? ⟨w.heap.size+2,4,none⟩=some (.slice none 0 0)
 zf:∀ o,w'.frozen? ⟨w.heap.size+2,o,none⟩=false
 sz:w.heap.size+3<=w'.heap.size
theorem LfB.later {w:World}{cv hv:Value}{ep:Int}{x:QI}{w' w'':World}(h:LfB w cv hv ep x w')(hb:Below w'.heap.size w' w''):LfB w cv hv ep x w'':=
 ⟨qzA hb h.w0,qzA hb h.w1,qzA hb h.w2,qzA hb h.x0,qzA hb h.x1,qzA hb h.x4,qzA hb h.z0,qzA hb h.z1,qzA hb h.z2,qzA hb h.z3,qzA hb h.z4,fun o=>(hb.frozen (p:=⟨w.heap.size+2,o,none⟩) (by have:=h.sz;simp only;omega)).trans (h.zf o),qzD h.sz hb.size⟩
theorem xqH (w:World)(cv hv:Value)(ep:Int)(x:QI):LfB w cv hv ep x (((w.alloc (.cells #[cv,hv,.int .i64 ep] 25)).alloc (.cells #[.int .i64 x.op,.int .i64 x.a,.int .i64 x.b,.int .i64 x.c,.string x.name] 59)).alloc (.cells #[.string ⟨#[]⟩,.int .i64 0,.int .i64 0,.int .i64 0,.slice none 0 0] 55)):=by
 have e1:(w.alloc (.cells #[cv,hv,.int .i64 ep] 25)).heap.size=w.heap.size+1:=by simp
 have e2:((w.alloc (.cells #[cv,hv,.int .i64 ep] 25)).alloc (.cells #[.int .i64 x.op,.int .i64 x.a,.int .i64 x.b,.int .i64 x.c,.string x.name] 59)).heap.size=w.heap.size+2:=by simp
 exact⟨qzA (xbP _ _ _) (xaa w #[cv,hv,.int .i64 ep] 25 _ rfl 0),qzA (xbP _ _ _) (xaa w #[cv,hv,.int .i64 ep] 25 _ rfl 1),qzA (xbP _ _ _) (xaa w #[cv,hv,.int .i64 ep] 25 _ rfl 2),qzA (xak _ _) (xaa _ _ _ _ e1 0),qzA (xak _ _) (xaa _ _ _ _ e1 1),qzA (xak _ _) (xaa _ _ _ _ e1 4),xaa _ _ _ _ e2 0,xaa _ _ _ _ e2 1,xaa _ _ _ _ e2 2,xaa _ _ _ _ e2 3,xaa _ _ _ _ e2 4,xbT (cur:=#[.string ⟨#[]⟩,.int .i64 0,.int .i64 0,.int .i64 0,.slice none 0 0]) (t:=55) (by rw[← e2];exact qzJ _ _),by simp⟩
theorem xlk {P Q:Nat->Prop}(X:QW)(sites:List Int)(at':Nat)(x:QI)(cv hv sv:Value)(w:World)(hC:xai P w cv X.cz)(hH:xaD P w hv X.heap)(hS:xc5 Q w sv sites) :
  Calls Try.prog 32 #[WV cv hv X.ez,sv,.int .i64 (at':Int),IV x] w fun e w'=>LfPost w (xa3 X.cz sites at' x) e w':=by
 obtain⟨ac,cc,rfl,-,hcc,-,hrowC⟩:=id (xd6 hC);obtain⟨ah,ch,rfl,-⟩:=id hH;obtain⟨asv,cs,rfl,hls,hcs,-,hrow⟩:=id hS;unfold maxLen at hcs hcc;have hB0:=xqH w (.slice ac X.cz.length cc) (.slice ah X.heap.length ch) X.ez x;have hbW:=xfL w (.cells #[.slice ac X.cz.length cc,.slice ah X.heap.length ch,.int .i64 X.ez] 25) (.cells #[.int .i64 x.op,.int .i64 x.a,.int .i64 x.b,.int .i64 x.c,.string x.name] 59) (.cells #[.string ⟨#[]⟩,.int .i64 0,.int .i64 0,.int .i64 0,.slice none 0 0] 55);go_enter Try.func32,Try.ntmps32
 go_upto_region 1 with (fail)
 simp only[Nat.add_assoc,Nat.reduceAdd];generalize (((w.alloc (.cells #[.slice ac X.cz.length cc,.slice ah X.heap.length ch,.int .i64 X.ez] 25)).alloc (.cells #[.int .i64 x.op,.int .i64 x.a,.int .i64 x.b,.int .i64 x.c,.string x.name] 59)).alloc (.cells #[.string ⟨#[]⟩,.int .i64 0,.int .i64 0,.int .i64 0,.slice none 0 0] 55))=W at *;have HN:Hid (∀ U,Below w.heap.size w U->xa3 X.cz sites at' x=none->LfPost w (xa3 X.cz sites at' x) (.returned (.tuple #[MV zM0 (.slice none 0 0),.bool false])) (xk4 U (w.heap.size+2) (.string ⟨#[]⟩) (.int .i64 0) (.int .i64 0) (.int .i64 0) (.slice none 0 0))):=fun U hb h=>by rw[h];exact xpy hb
 obtain⟨k0,k1,k2,x0,x1,x4,z0,z1,z2,z3,z4,zf,sz⟩:=id hB0
 by_cases hop:x.op=14
 ·have hd:(x.op == 14)=true:=by simpa using hop
  have hdn:(x.op != 14)=false:=by simpa using hop
  have HOP:=xcr hop;rw[hop] at x0;clear hop hd hdn
  by_cases hlt:at'<sites.length
  ·obtain⟨k,hk⟩:∃ k,sites[at']?=some k:=⟨sites[at'],by simp[hlt]⟩
   have HK:Hid (sites.getD at' (-1)=k):=by show _=_;rw[List.getD_eq_getElem?_getD,hk];rfl
   obtain⟨bs,os,rfl,-,y0⟩:=hrow at' k hk;replace y0:w.cell? ⟨bs,os+at',none⟩=some (.int .i64 k):=by simpa [xpr] using y0
   have y1:=qzA hbW y0;have hj1:(at':Int)<(sites.length:Int):=by omega
   have hj0:(0:Int)<=(at':Int):=by omega
   have hge:¬ ((sites.length:Int)<=(at':Int)):=by omega
   clear hrow hk
   by_cases hk0:k<0
   ·have hkd:decide (k<0)=true:=by simpa using hk0
    have HZ:=xcr (HN.out W hbW (by unfold xa3;rw[if_neg (by rw[HK.out];omega)]))
    clear hk0;go_wp2;refine qzK (v:=.tuple #[MV zM0 (.slice none 0 0),.bool false]) ?_ rfl HZ.out
    simp[results,Try.results32,go_sem,z0,z1,z2,z3,z4]
   ·have hkd:decide (k<0)=false:=by simpa using hk0
    have HK0:=xcr hk0
    have hSl:∀ w',Below W.heap.size W w'->w'.cell? ⟨w.heap.size,0,none⟩=some (.slice ac X.cz.length cc)/\w'.cell? ⟨w.heap.size,1,none⟩=some (.slice ah X.heap.length ch)/\w'.cell? ⟨w.heap.size,2,none⟩=some (.int .i64 X.ez)/\w'.cell? ⟨bs,os+at',none⟩=some (.int .i64 k)/\w'.cell? ⟨w.heap.size+1,4,none⟩=some (.string x.name):=fun w' hb=>by
     have h:=hB0.later hb
     exact⟨h.w0,h.w1,h.w2,qzA hb y1,h.x4⟩
    have hS0:=hSl _ (qzL _ W).drew;clear hk0
    go_upto_region 3 with (fail)
    refine xav (S:=fun w'=>w'.cell? ⟨w.heap.size,0,none⟩=some (.slice ac X.cz.length cc)/\w'.cell? ⟨w.heap.size,1,none⟩=some (.slice ah X.heap.length ch)/\w'.cell? ⟨w.heap.size,2,none⟩=some (.int .i64 X.ez)/\w'.cell? ⟨bs,os+at',none⟩=some (.int .i64 k)/\w'.cell? ⟨w.heap.size+1,4,none⟩=some (.string x.name)) [] (by kernel_rfl) ?_
    refine tj 0 (⟨some 31,.load 25 (.tmp 4),25,_,_,none⟩) (WV (.slice ac X.cz.length cc) (.slice ah X.heap.length ch) X.ez) (hS0) ?_ ?_
    ·rintro w⟨q0,q1,q2,q3,q4⟩;go_simp
    try simp only[Act.put,qzF,qzG,qzH]
    refine tj 1 (⟨some 32,.move (.tmp 1),48,_,_,none⟩) (.slice (some ⟨bs,os,none⟩) sites.length cs) (hS0) ?_ ?_
    ·rintro w⟨q0,q1,q2,q3,q4⟩;go_simp
    try simp only[Act.put,qzF,qzG,qzH]
    refine tj 2 (⟨some 33,.move (.tmp 2),3,_,_,none⟩) (.int .i64 (at':Int)) (hS0) ?_ ?_
    ·rintro w⟨q0,q1,q2,q3,q4⟩;go_simp
    try simp only[Act.put,qzF,qzG,qzH]
    refine tj 3 (⟨some 34,.indexAddr 48 (.tmp 32) (.tmp 33),0,_,_,none⟩) (.pointer (some ⟨bs,os+at',none⟩)) (hS0) ?_ ?_
    ·rintro w⟨q0,q1,q2,q3,q4⟩;go_simp
    try simp only[Act.put,qzF,qzG,qzH]
    refine tj 4 (⟨some 35,.load 3 (.tmp 34),3,_,_,none⟩) (.int .i64 k) (hS0) ?_ ?_
    ·rintro w⟨q0,q1,q2,q3,q4⟩;go_simp
    try simp only[Act.put,qzF,qzG,qzH]
    refine tj 5 (⟨some 36,.fieldAddr 59 (.tmp 7) 4,0,_,_,none⟩) (.pointer (some ⟨w.heap.size+1,4,none⟩)) (hS0) ?_ ?_
    ·rintro w⟨q0,q1,q2,q3,q4⟩;go_simp
    try simp only[Act.put,qzF,qzG,qzH]
    refine tj 6 (⟨some 37,.load 9 (.tmp 36),9,_,_,none⟩) (.string x.name) (hS0) ?_ ?_
    ·rintro w⟨q0,q1,q2,q3,q4⟩;go_simp
    try simp only[Act.put,qzF,qzG,qzH]
    refine xab (rs:=[7]) (by kernel_rfl) (by simp) ?_
    intro i hi;simp only[List.mem_cons,List.not_mem_nil,or_false] at hi;subst hi;refine xaN (o:=⟨some 38,.call ⟨.value (.func 53),#[.tmp 31,.tmp 35,.tmp 37],#[25,3,9]⟩,56,_,_,none⟩) rfl (fun K' hK=>?_)
    refine xaZ rfl 53 (.func 53) #[.tmp 31,.tmp 35,.tmp 37] _ rfl #[] rfl #[WV (.slice ac X.cz.length cc) (.slice ah X.heap.length ch) X.ez,.int .i64 k,.string x.name] (by simp[Act.eval,Act.put]) (cf45 _ _) ?_
    refine (show Calls Try.prog 53 #[WV (.slice ac X.cz.length cc) (.slice ah X.heap.length ch) X.ez,.int .i64 k,.string x.name] W.drew _ from (xfE X k x.name _ _ W.drew (hC.later xaA hbW.drew) (hH.later xaE hbW.drew)).mono ?_)
    rintro e w1 ⟨rfl,hb1⟩;refine⟨_,rfl,?_⟩;have hbW1:Below W.heap.size W w1:=xaf (qzL _ W).drew hb1;refine hK _ _ (fun _=>?_) ?_
    ·exact hSl _ hbW1
    clear hK K'
    try simp only[Act.put,qzF,qzG,qzH]
    obtain⟨fc,fj,hf⟩:∃ fc fj,xaB X.cz k x.name=(fc,fj):=⟨_,_,rfl⟩;simp only[hf];refine tj 8 (⟨some 30,.move (.tmp 38),56,_,_,none⟩) (.tuple #[.int .i64 fc,.int .i64 fj]) (hSl _ hbW1) ?_ ?_
    ·rintro w⟨q0,q1,q2,q3,q4⟩;go_simp
    try simp only[Act.put,qzF,qzG,qzH]
    refine tj 9 (⟨some 39,.extract (.tmp 30) 0,3,_,_,none⟩) (.int .i64 fc) (hSl _ hbW1) ?_ ?_
    ·rintro w⟨q0,q1,q2,q3,q4⟩;go_simp
    try simp only[Act.put,qzF,qzG,qzH]
    refine tj 10 (⟨some 40,.extract (.tmp 30) 1,3,_,_,none⟩) (.int .i64 fj) (hSl _ hbW1) ?_ ?_
    ·rintro w⟨q0,q1,q2,q3,q4⟩;go_simp
    try simp only[Act.put,qzF,qzG,qzH]
    refine tj 11 (⟨some 10,.assign (.tmp 39),3,_,_,none⟩) (.int .i64 fc) (hSl _ hbW1) ?_ ?_
    ·rintro w⟨q0,q1,q2,q3,q4⟩;go_simp
    try simp only[Act.put,qzF,qzG,qzH]
    refine tj 12 (⟨some 11,.assign (.tmp 40),3,_,_,none⟩) (.int .i64 fj) (hSl _ hbW1) ?_ ?_
    ·rintro w⟨q0,q1,q2,q3,q4⟩;go_simp
    try simp only[Act.put,qzF,qzG,qzH]
    refine xaz (by kernel_rfl) ?_ _
    try simp only[Act.put,qzF,qzG,qzH]
    have hb1w:Below w.heap.size w w1:=xaf hbW hbW1;replace hB0:=hB0.later hbW1;clear k0 k1 k2 x0 x1 x4 z0 z1 z2 z3 z4 zf sz hSl hS0 hb1 y0 y1;obtain⟨k0,k1,k2,x0,x1,x4,z0,z1,z2,z3,z4,zf,sz⟩:=id hB0;have HSI:Hid (xa3 X.cz sites at' x=match xd5 X.cz k x.name with | none=>none | some m=>if m.args=x.a/\xdj m=true then some m else none):=by show _=_;unfold xa3;rw[HK.out,if_pos ⟨HOP.out,by have:=HK0.out;omega⟩];cases xd5 X.cz k x.name<;>rfl
    rcases xfd X.cz k x.name with ⟨h1,h2⟩ | ⟨qc,xc,tc,m,he,hxc,hm⟩
    ·rw[hf] at h1 h2;simp only at h1 h2;have hfd:decide (fc<0)=true:=by simpa using h1
     have HZ:=xcr (HN.out w1 hb1w (by rw[HSI.out];unfold xd5;rw[hf,if_pos h2]))
     clear h1 h2;go_wp2;refine qzK (v:=.tuple #[MV zM0 (.slice none 0 0),.bool false]) ?_ rfl HZ.out
     simp[results,Try.results32,go_sem,z0,z1,z2,z3,z4]
    ·have HSM:Hid (xa3 X.cz sites at' x=if m.args=x.a/\xdj m=true then some m else none):=by
      show _=_
      rw[HSI.out];have:xd5 X.cz k x.name=some m:=by unfold xd5;rw[he];simp[hxc,hm]
      rw[this]
     rw[hf] at he;obtain⟨rfl,rfl⟩:fc=(qc:Int)/\fj=(tc:Int):=by cases he;exact⟨rfl,rfl⟩
     obtain⟨b1,o1,rfl,-,-,-,-,-,mv,u3,hms⟩:=hrowC qc xc hxc;obtain⟨am,cm,rfl,hlm,hcm,-,hrm⟩:=hms;obtain⟨b2,o2,rfl,-,v0,v1,v2,v3,-,kv,v4,hco0⟩:=hrm tc m hm;obtain⟨ak,ck,rfl,-⟩:=id hco0;simp only[Nat.add_zero] at v0;unfold maxLen at hcm;have hq:=xae hxc;have ht:=xae hm;have hq1:(qc:Int)<(X.cz.length:Int):=by omega
     have hq0:(0:Int)<=(qc:Int):=by omega
     have ht1:(tc:Int)<(xc.mz.length:Int):=by omega
     have ht0:(0:Int)<=(tc:Int):=by omega
     have hqn:decide ((qc:Int)<0)=false:=by simp
     replace u3:=qzA hb1w u3;replace v0:=qzA hb1w v0;replace v1:=qzA hb1w v1;replace v2:=qzA hb1w v2;replace v3:=qzA hb1w v3;replace v4:=qzA hb1w v4;have hbV1:=xak w1 (.cells #[.string m.name,.int .i64 m.args,.int .i64 m.temps,.int .i64 m.prim,.slice ak m.code.length ck] 55);have hco:=(hco0.later xa2 hb1w).later xa2 hbV1;have hbV:=xaf hb1w hbV1;have hBV:=hB0.later hbV1;have hS12:(w1.alloc (.cells #[.string m.name,.int .i64 m.args,.int .i64 m.temps,.int .i64 m.prim,.slice ak m.code.length ck] 55)).heap[w1.heap.size]?=some (.cells #[.string m.name,.int .i64 m.args,.int .i64 m.temps,.int .i64 m.prim,.slice ak m.code.length ck] 55 (0,0)):=qzJ _ _
     have hszz:=hB0.sz;clear hrowC hrm hxc hm he hf
     go_upto_region 7 with (fail)
     generalize (w1.alloc (.cells #[.string m.name,.int .i64 m.args,.int .i64 m.temps,.int .i64 m.prim,.slice ak m.code.length ck] 55))=V at *;generalize hb12:w1.heap.size=b12 at *
     have hSl:∀ w',Below V.heap.size V w'->w'.cell? ⟨b12,0,none⟩=some (.string m.name)/\w'.cell? ⟨b12,1,none⟩=some (.int .i64 m.args)/\w'.cell? ⟨b12,2,none⟩=some (.int .i64 m.temps)/\w'.cell? ⟨b12,3,none⟩=some (.int .i64 m.prim)/\w'.cell? ⟨b12,4,none⟩=some (.slice ak m.code.length ck)/\w'.cell? ⟨w.heap.size+1,1,none⟩=some (.int .i64 x.a):=fun w' hb=>by
      have h:=xad hS12 hb
      exact⟨by rw[qzB h];rfl,by rw[qzB h];rfl,by rw[qzB h];rfl,by rw[qzB h];rfl,by rw[qzB h];rfl,(hBV.later hb).x1⟩
     have hZ:∀ w',Below V.heap.size V w'->w'.cell? ⟨w.heap.size+2,0,none⟩=some (.string ⟨#[]⟩)/\w'.cell? ⟨w.heap.size+2,1,none⟩=some (.int .i64 0)/\w'.cell? ⟨w.heap.size+2,2,none⟩=some (.int .i64 0)/\w'.cell? ⟨w.heap.size+2,3,none⟩=some (.int .i64 0)/\w'.cell? ⟨w.heap.size+2,4,none⟩=some (.slice none 0 0)/\∀ o,w'.frozen? ⟨w.heap.size+2,o,none⟩=false:=fun w' hb=>by
      have h:=hBV.later hb
      exact⟨h.z0,h.z1,h.z2,h.z3,h.z4,h.zf⟩
     have hS7:=hSl _ (qzL _ V).drew;clear k0 k1 k2 x0 x1 x4 z0 z1 z2 z3 z4 zf sz u3 v0 v1 v2 v3 v4
     by_cases hea:m.args=x.a
     ·have heb:(m.args == x.a)=true:=by simpa using hea
      have HST:Hid (xa3 X.cz sites at' x=if xdj m then some m else none):=by show _=_;rw[HSM.out];simp[hea]
      clear hea;refine xav (S:=fun w'=>w'.cell? ⟨b12,0,none⟩=some (.string m.name)/\w'.cell? ⟨b12,1,none⟩=some (.int .i64 m.args)/\w'.cell? ⟨b12,2,none⟩=some (.int .i64 m.temps)/\w'.cell? ⟨b12,3,none⟩=some (.int .i64 m.prim)/\w'.cell? ⟨b12,4,none⟩=some (.slice ak m.code.length ck)/\w'.cell? ⟨w.heap.size+1,1,none⟩=some (.int .i64 x.a)) [] (by kernel_rfl) ?_
      refine tj 0 (⟨some 53,.load 55 (.tmp 12),55,_,_,none⟩) (MV m (.slice ak m.code.length ck)) (hS7) ?_ ?_
      ·rintro w⟨q0,q1,q2,q3,q4,q5⟩;go_simp
      try simp only[Act.put,qzF,qzG,qzH]
      refine tj 1 (⟨some 54,.fieldAddr 55 (.tmp 12) 1,0,_,_,none⟩) (.pointer (some ⟨b12,1,none⟩)) (hS7) ?_ ?_
      ·rintro w⟨q0,q1,q2,q3,q4,q5⟩;go_simp
      try simp only[Act.put,qzF,qzG,qzH]
      refine tj 2 (⟨some 55,.load 3 (.tmp 54),3,_,_,none⟩) (.int .i64 m.args) (hS7) ?_ ?_
      ·rintro w⟨q0,q1,q2,q3,q4,q5⟩;go_simp
      try simp only[Act.put,qzF,qzG,qzH]
      refine tj 3 (⟨some 56,.fieldAddr 59 (.tmp 7) 1,0,_,_,none⟩) (.pointer (some ⟨w.heap.size+1,1,none⟩)) (hS7) ?_ ?_
      ·rintro w⟨q0,q1,q2,q3,q4,q5⟩;go_simp
      try simp only[Act.put,qzF,qzG,qzH]
      refine tj 4 (⟨some 57,.load 3 (.tmp 56),3,_,_,none⟩) (.int .i64 x.a) (hS7) ?_ ?_
      ·rintro w⟨q0,q1,q2,q3,q4,q5⟩;go_simp
      try simp only[Act.put,qzF,qzG,qzH]
      refine tj 5 (⟨some 58,.binOp .eql 3 (.tmp 55) (.tmp 57) 3,4,_,_,none⟩) (.bool true) (hS7) ?_ ?_
      ·rintro w⟨q0,q1,q2,q3,q4,q5⟩;go_simp
      try simp only[Act.put,qzF,qzG,qzH]
      refine tj 6 (⟨some 59,.move (.tmp 58),4,_,_,none⟩) (.bool true) (hS7) ?_ ?_
      ·rintro w⟨q0,q1,q2,q3,q4,q5⟩;go_simp
      try simp only[Act.put,qzF,qzG,qzH]
      refine tj 7 (⟨some 60,.load 55 (.tmp 12),55,_,_,some (6,true)⟩) (MV m (.slice ak m.code.length ck)) (hS7) ?_ ?_
      ·rintro w⟨q0,q1,q2,q3,q4,q5⟩;go_simp
      try simp only[Act.put,qzF,qzG,qzH]
      refine xab (rs:=[8]) (by kernel_rfl) (by simp) ?_
      intro i hi;simp only[List.mem_cons,List.not_mem_nil,or_false] at hi;subst hi;refine xaN (o:=⟨some 61,.call ⟨.value (.func 54),#[.tmp 60],#[55]⟩,4,_,_,some (6,true)⟩) rfl (fun K' hK=>?_)
      refine xk7 (by rfl) 54 (.func 54) #[.tmp 60] _ rfl #[] rfl #[MV m (.slice ak m.code.length ck)] (by simp[Act.eval,Act.put]) (cf46 _ _) ?_
      refine (show Calls Try.prog 54 #[MV m (.slice ak m.code.length ck)] V.drew _ from (xkA m _ V.drew (hco.later xa2 (qzL _ V).drew)).mono ?_)
      rintro e w5 ⟨rfl,hb5⟩;refine⟨_,rfl,?_⟩;have hbV5:Below V.heap.size V w5:=xaf (qzL _ V).drew hb5;obtain⟨r0,r1,r2,r3,r4,rf⟩:=hZ _ hbV5;obtain⟨z0,z1,z2,z3,z4,z5⟩:=hSl _ hbV5;refine hK _ _ (fun _=>?_) ?_
      ·exact hSl _ hbV5
      clear hK K'
      try simp only[Act.put,qzF,qzG,qzH]
      refine tj 9 (⟨some 62,.pick (.tmp 59) (.tmp 61) (.const (.bool false)),4,_,_,none⟩) (.bool (xdj m)) (hSl _ hbV5) ?_ ?_
      ·rintro w⟨q0,q1,q2,q3,q4,q5⟩;go_simp
      try simp only[Act.put,qzF,qzG,qzH]
      refine xab (rs:=[10]) (by kernel_rfl) (by simp) ?_
      intro i hi;simp only[List.mem_cons,List.not_mem_nil,or_false] at hi;subst hi;refine xaN (o:=⟨none,.store 55 (.tmp 8) (.tmp 53),0,_,_,none⟩) rfl (fun K' hK=>?_)
      go_simp;refine hK _ _ (fun _=>?_) ?_
      ·exact⟨xc2 z0 (by omega),xc2 z1 (by omega),xc2 z2 (by omega),xc2 z3 (by omega),xc2 z4 (by omega),xc2 z5 (by omega)⟩
      clear hK K'
      try simp only[Act.put,qzF,qzG,qzH]
      refine tj 11 (⟨some 9,.assign (.tmp 62),4,_,_,none⟩) (.bool (xdj m)) (⟨xc2 z0 (by omega),xc2 z1 (by omega),xc2 z2 (by omega),xc2 z3 (by omega),xc2 z4 (by omega),xc2 z5 (by omega)⟩) ?_ ?_
      ·rintro w⟨q0,q1,q2,q3,q4,q5⟩;go_simp
      try simp only[Act.put,qzF,qzG,qzH]
      refine xaz (by kernel_rfl) ?_ _
      try simp only[Act.put,qzF,qzG,qzH]
      have HQ:=xcr (xmR (U:=w5) (m:=m) (a:=ak) (c:=ck) HST.out (xaf hbV hbV5) (hco.later xa2 hbV5));go_wp2;refine qzK (v:=.tuple #[MV m (.slice ak m.code.length ck),.bool (xdj m)]) ?_ rfl HQ.out
      simp[results,Try.results32,go_sem,r0,r1,r2,r3,r4]
     ·have heb:(m.args == x.a)=false:=by simpa using hea
      have HST:Hid (xa3 X.cz sites at' x=if false then some m else none):=by show _=_;rw[HSM.out];simp[hea]
      clear hea;refine xav (S:=fun w'=>w'.cell? ⟨b12,0,none⟩=some (.string m.name)/\w'.cell? ⟨b12,1,none⟩=some (.int .i64 m.args)/\w'.cell? ⟨b12,2,none⟩=some (.int .i64 m.temps)/\w'.cell? ⟨b12,3,none⟩=some (.int .i64 m.prim)/\w'.cell? ⟨b12,4,none⟩=some (.slice ak m.code.length ck)/\w'.cell? ⟨w.heap.size+1,1,none⟩=some (.int .i64 x.a)) [] (by kernel_rfl) ?_
      refine tj 0 (⟨some 53,.load 55 (.tmp 12),55,_,_,none⟩) (MV m (.slice ak m.code.length ck)) (hS7) ?_ ?_
      ·rintro w⟨q0,q1,q2,q3,q4,q5⟩;go_simp
      try simp only[Act.put,qzF,qzG,qzH]
      refine tj 1 (⟨some 54,.fieldAddr 55 (.tmp 12) 1,0,_,_,none⟩) (.pointer (some ⟨b12,1,none⟩)) (hS7) ?_ ?_
      ·rintro w⟨q0,q1,q2,q3,q4,q5⟩;go_simp
      try simp only[Act.put,qzF,qzG,qzH]
      refine tj 2 (⟨some 55,.load 3 (.tmp 54),3,_,_,none⟩) (.int .i64 m.args) (hS7) ?_ ?_
      ·rintro w⟨q0,q1,q2,q3,q4,q5⟩;go_simp
      try simp only[Act.put,qzF,qzG,qzH]
      refine tj 3 (⟨some 56,.fieldAddr 59 (.tmp 7) 1,0,_,_,none⟩) (.pointer (some ⟨w.heap.size+1,1,none⟩)) (hS7) ?_ ?_
      ·rintro w⟨q0,q1,q2,q3,q4,q5⟩;go_simp
      try simp only[Act.put,qzF,qzG,qzH]
      refine tj 4 (⟨some 57,.load 3 (.tmp 56),3,_,_,none⟩) (.int .i64 x.a) (hS7) ?_ ?_
      ·rintro w⟨q0,q1,q2,q3,q4,q5⟩;go_simp
      try simp only[Act.put,qzF,qzG,qzH]
      refine tj 5 (⟨some 58,.binOp .eql 3 (.tmp 55) (.tmp 57) 3,4,_,_,none⟩) (.bool false) (hS7) ?_ ?_
      ·rintro w⟨q0,q1,q2,q3,q4,q5⟩;go_simp
      try simp only[Act.put,qzF,qzG,qzH]
      refine tj 6 (⟨some 59,.move (.tmp 58),4,_,_,none⟩) (.bool false) (hS7) ?_ ?_
      ·rintro w⟨q0,q1,q2,q3,q4,q5⟩;go_simp
      try simp only[Act.put,qzF,qzG,qzH]
      refine xee (i:=7) (oi:=⟨some 60,.load 55 (.tmp 12),55,_,_,some (6,true)⟩) (v:=undef) (by kernel_rfl) (by kernel_rfl) rfl (by kernel_rfl) (by kernel_rfl) (by kernel_rfl) (fun _ _ _ h=>h) (Or.inr ⟨by rfl,rfl⟩) (hS7) ?_
      try simp only[Act.put,qzF,qzG,qzH]
      refine xee (i:=8) (oi:=⟨some 61,.call ⟨.value (.func 54),#[.tmp 60],#[55]⟩,4,_,_,some (6,true)⟩) (v:=undef) (by kernel_rfl) (by kernel_rfl) rfl (by kernel_rfl) (by kernel_rfl) (by kernel_rfl) (fun _ _ _ h=>h) (Or.inr ⟨by rfl,rfl⟩) (hS7) ?_
      try simp only[Act.put,qzF,qzG,qzH]
      refine tj 9 (⟨some 62,.pick (.tmp 59) (.tmp 61) (.const (.bool false)),4,_,_,none⟩) (.bool false) (hS7) ?_ ?_
      ·rintro w⟨q0,q1,q2,q3,q4,q5⟩;go_simp
      try simp only[Act.put,qzF,qzG,qzH]
      refine xab (rs:=[10]) (by kernel_rfl) (by simp) ?_
      intro i hi;simp only[List.mem_cons,List.not_mem_nil,or_false] at hi;subst hi;refine xaN (o:=⟨none,.store 55 (.tmp 8) (.tmp 53),0,_,_,none⟩) rfl (fun K' hK=>?_)
      obtain⟨r0,r1,r2,r3,r4,rf⟩:=hZ _ (qzL _ V);obtain⟨z0,z1,z2,z3,z4,z5⟩:=hSl _ (qzL _ V);go_simp;refine hK _ _ (fun _=>?_) ?_
      ·exact⟨qzA (qzL _ _).drew (xc2 z0 (by omega)),qzA (qzL _ _).drew (xc2 z1 (by omega)),qzA (qzL _ _).drew (xc2 z2 (by omega)),qzA (qzL _ _).drew (xc2 z3 (by omega)),qzA (qzL _ _).drew (xc2 z4 (by omega)),qzA (qzL _ _).drew (xc2 z5 (by omega))⟩
      clear hK K'
      try simp only[Act.put,qzF,qzG,qzH]
      refine tj 11 (⟨some 9,.assign (.tmp 62),4,_,_,none⟩) (.bool false) (⟨qzA (qzL _ _).drew (xc2 z0 (by omega)),qzA (qzL _ _).drew (xc2 z1 (by omega)),qzA (qzL _ _).drew (xc2 z2 (by omega)),qzA (qzL _ _).drew (xc2 z3 (by omega)),qzA (qzL _ _).drew (xc2 z4 (by omega)),qzA (qzL _ _).drew (xc2 z5 (by omega))⟩) ?_ ?_
      ·rintro w⟨q0,q1,q2,q3,q4,q5⟩;go_simp
      try simp only[Act.put,qzF,qzG,qzH]
      refine xaz (by kernel_rfl) ?_ _
      try simp only[Act.put,qzF,qzG,qzH]
      have HQ:=xcr (xmR (U:=V) (m:=m) (a:=ak) (c:=ck) (b:=false) HST.out hbV hco);obtain⟨r0,r1,r2,r3,r4,rf⟩:=hZ _ (qzL _ V);go_wp2;refine qzK (v:=.tuple #[MV m (.slice ak m.code.length ck),.bool false]) ?_ rfl HQ.out.drew
      simp[results,Try.results32,go_sem,r0,r1,r2,r3,r4]
  ·have hge:(sites.length:Int)<=(at':Int):=by omega
   have HZ:=xcr (HN.out W hbW (by unfold xa3;rw[if_neg (by rw[List.getD_eq_getElem?_getD,List.getElem?_eq_none (by omega)];simp)]))
   clear hrow;go_wp2;refine qzK (v:=.tuple #[MV zM0 (.slice none 0 0),.bool false]) ?_ rfl HZ.out
   simp[results,Try.results32,go_sem,z0,z1,z2,z3,z4]
 ·have hd:(x.op == 14)=false:=by simpa using hop
  have hdn:(x.op != 14)=true:=by simpa using hop
  have HZ:=xcr (HN.out W hbW (by unfold xa3;rw[if_neg (by omega)]))
  clear hop;go_wp2;refine qzK (v:=.tuple #[MV zM0 (.slice none 0 0),.bool false]) ?_ rfl HZ.out
  simp[results,Try.results32,go_sem,z0,z1,z2,z3,z4]
structure Sml (m:QM):Prop where
 args:0<=m.args/\m.args<=4
 temps:0<=m.temps/\m.temps<=6
 len:m.code.length<=60
 code:∀ x∈m.code,(x.op=2\/x.op=3\/x.op=11\/x.op=15\/x.op=16)->0<=x.a/\x.a<=1000
 jump:∀ x∈m.code,(x.op=15\/x.op=16)->0<=x.a/\x.a<m.code.length
 plain:∀ x∈m.code,1<=x.op/\x.op<=17/\x.b=0/\x.c=0/\(x.op≠14->xl0 x.name=true)
theorem xmp {X:QW}(h:xaH X=0){c n:Int}{m:QM}(hm:xaI X.cz c n=some m)(hp0:m.prim≠0):m.args=1/\m.temps=0/\m.code=[]:=by
 rcases xdS h hm with ⟨-,-⟩ | ⟨h0,-⟩
 ·obtain⟨hs,-,hk,-⟩:=xcl h;unfold xaI at hm
  cases hx:xbx X.cz c with
  | none=>rw[hx] at hm;cases hm
  | some x=>
   rw[hx] at hm;simp only[Option.bind_some] at hm;obtain⟨k,rfl,hx'⟩:=xa7 hx
   split at hm
   ·have hr:=hk k x (xae hx') hx';unfold rkE at hr
    split at hr
    ·cases hr
    ·split at hr
     ·cases hr
     ·have hq:=xbM hr _ _ hm;unfold rmE at hq
      split at hq
      ·cases hq
      ·split at hq
       ·rename_i hp;unfold xgQ at hp;rw[List.any_eq_true] at hp;obtain⟨p,hpm,hp⟩:=hp;simp only[Bool.and_eq_true,decide_eq_true_eq] at hp
        exact⟨hp.1.1.2,hp.1.2,List.eq_nil_of_length_eq_zero hp.2⟩
       ·exfalso;unfold xd9 at hq
        split at hq
        ·rename_i a;exact absurd hq a
        ·rename_i a;have hw:wmE X.cz.length k m=0:=Decidable.of_not_not a;unfold wmE at hw
         split at hw
         ·cases hw
         ·split at hw
          ·cases hw
          ·split at hw
           ·cases hw
           ·cases hw
   ·cases hm
 ·exact absurd h0 hp0
theorem xda {X:QW}(h:xaH X=0){c n:Int}{m:QM}(hm:xaI X.cz c n=some m):Sml m:=by
 by_cases hp0:m.prim=0
 ·rcases xdS h hm with ⟨h0,-⟩ | ⟨-,S,N,hw,hn,-⟩
  ·exact absurd hp0 h0
  ·unfold wmE at hw
   split at hw
   ·cases hw
   ·split at hw
    ·cases hw
    ·split at hw
     ·cases hw
     ·rename_i hat
      split at hw
      ·cases hw
      ·split at hw
       ·cases hw
       ·rename_i hlen
        simp[inR] at hat hlen
        have hl:m.code.length<=60:=by omega
        refine⟨by omega,by omega,hl,fun x hx ho=>?_,fun x hx ho=>?_,fun x hx=>?_⟩
        ·have hx':=hn x hx;obtain⟨n1,n2,n3,n4,n5,n6,n7⟩:=xf0 hx'
         rcases ho with ho | ho | ho | ho | ho
         ·have:=n3 ho;omega
         ·have:=n4 (Or.inl ho);omega
         ·have:=n4 (Or.inr ho);omega
         ·unfold xgb at hx'
          split at hx'
          ·cases hx'
          ·split at hx'
           ·cases hx'
           ·rename_i hra;simp[raE,ho,inR] at hra;omega
         ·unfold xgb at hx'
          split at hx'
          ·cases hx'
          ·split at hx'
           ·cases hx'
           ·rename_i hra;simp[raE,ho,inR] at hra;omega
        ·have hx':=hn x hx;unfold xgb at hx'
         split at hx'
         ·cases hx'
         ·split at hx'
          ·cases hx'
          ·rename_i hra
           rcases ho with ho | ho<;>(simp[raE,ho,inR] at hra;omega)
        ·have hx':=hn x hx;obtain⟨n1,n2,n3,n4,n5,n6,n7⟩:=xf0 hx';refine⟨n1,n2,n6,n7,fun h14=>?_⟩
         unfold xgb at hx'
         split at hx'
         ·cases hx'
         ·split at hx'
          ·cases hx'
          ·split at hx'
           ·cases hx'
           ·rename_i hr
            have hrn:rnB x=true:=by
             cases hb:rnB x with
             | true=>rfl
             | false=>exact absurd (Or.inl hb) hr
            unfold rnB at hrn;rw[if_neg h14] at hrn
            exact hrn
 ·obtain⟨h1,h2,h3⟩:=xmp h hm hp0;refine⟨by omega,by omega,by rw[h3];simp,fun x hx=>(by rw[h3] at hx;cases hx),fun x hx=>(by rw[h3] at hx;cases hx),fun x hx=>(by rw[h3] at hx;cases hx)⟩
theorem xeY {xs:List QC}{k:Int}{name:ByteArray}{m:QM}(h:xd5 xs k name=some m):xaI xs (xaB xs k name).1 (xaB xs k name).2=some m:=by
 unfold xd5 at h
 split at h
 ·cases h
 ·rename_i h2;unfold xaI xbx
  rcases xfd xs k name with ⟨-,h3⟩ | ⟨q,x,t,y,he,hx,hm⟩
  ·exact absurd h3 h2
  ·rw[he] at h ⊢
   simp[hx,hm] at h ⊢
   exact h
theorem xbv {X:QW}(h:xaH X=0){sites:List Int}{at':Nat}{x:QI}{m:QM}(hs:xa3 X.cz sites at' x=some m):Sml m/\m.args=x.a/\xdj m=true/\x.op=14:=by
 unfold xa3 at hs
 split at hs
 ·rename_i ho
  split at hs
  ·cases hs
  ·rename_i m' hm
   split at hs
   ·rename_i hc
    cases hs
    exact⟨xda h (xeY hm),hc.1,hc.2,ho.1⟩
   ·cases hs
 ·cases hs
theorem xci {X:QW}(h:xaH X=0){sites:List Int}{m:QM}(hm:Sml m):∀ {k:Nat},k<=m.code.length->(xah X.cz sites m k).code.length+(m.code.length-k)<=240/\0<=(xah X.cz sites m k).temps/\(xah X.cz sites m k).temps<=40/\(xah X.cz sites m k).pieces<=k
 | 0,_=>by have:=hm.len;have:=hm.temps;exact⟨by simp[xah];omega,by simp[xah];omega,by simp[xah];omega,qzC _⟩
 | k+1,hk=>by
  obtain⟨i1,i2,i3,i4⟩:=xci h hm (sites:=sites) (k:=k) (by omega)
  rw[xbg (List.getElem?_eq_getElem (by omega))]
  generalize xah X.cz sites m k=s at *;generalize m.code[k]=x;unfold xdA xdZ
  cases hst:xa3 X.cz sites k x with
  | none=>simp only[List.length_append,List.length_cons,List.length_nil];omega
  | some leaf=>
   obtain⟨hsm,-⟩:=xbv h hst
   by_cases hr:xgy s.code.length s.temps leaf ((m.code.length:Int)-k)=true
   ·simp only[hr,if_true,List.length_append,xbB];unfold xgy at hr;have hr':=of_decide_eq_true hr;have:=hsm.args;have:=hsm.temps
    omega
   ·simp only[hr,if_false,List.length_append,List.length_cons,List.length_nil]
    simp
    omega
structure MtL (Z:World)(bm:Nat)(m:QM)(kv:Value)(c ep tm:Int)(code:List QI)(bl:List Int)(a:Option Addr)(cap:Nat)(wr:World):Prop where
 os:wr.os=Z.os
 tape:wr.tape=Z.tape
 output:wr.output=Z.output
 sz:bm+3<=wr.heap.size
 fix:∀ b,b<bm->wr.heap[b]?=Z.heap[b]?
 mb:wr.heap[bm]?=some (.cells #[.string m.name,.int .i64 m.args,.int .i64 m.temps,.int .i64 m.prim,kv] 55 (0,0))
 fb:wr.heap[bm+1]?=some (.cells #[.int .i64 c,.string m.name,.int .i64 ep,.int .i64 tm,.slice a code.length cap] 62 (0,0))
 gb:wr.heap[bm+2]?=some (.cells (bl.map (Value.int .i64)).toArray 3 (0,0))
 own:OwnI wr (bm+3) a cap code
section
variable {Z:World} {bm:Nat} {m:QM} {kv:Value} {c ep tm:Int} {code:List QI} {bl:List Int} {a:Option Addr} {cap:Nat} {wr w':World}
theorem MtL.later (h:MtL Z bm m kv c ep tm code bl a cap wr)(hb:Below wr.heap.size wr w'):MtL Z bm m kv c ep tm code bl a cap w':=
 ⟨hb.os.trans h.os,hb.tape.trans h.tape,hb.output.trans h.output,qzD h.sz hb.size,fun b hb'=>(hb.block b (by have:=h.sz;omega)).trans (h.fix b hb'),xad h.mb hb,xad h.fb hb,xad h.gb hb,h.own.keep fun g hg=>hb.block g (h.own.lt g hg).2⟩
theorem MtL.setG (h:MtL Z bm m kv c ep tm code bl a cap wr)(j:Nat)(t:Int):MtL Z bm m kv c ep tm code (bl.set j t) a cap (wr.setCell ⟨bm+2,j,none⟩ (.int .i64 t)):=by
 have hd:Below 0 wr (wr.setCell ⟨bm+2,j,none⟩ (.int .i64 t)):=(qzL 0 wr).setCell (Nat.zero_le _) _;refine⟨hd.os.trans h.os,hd.tape.trans h.tape,hd.output.trans h.output,by rw[xa6];exact h.sz,fun b hb=>by rw[xac (by omega)];exact h.fix b hb,by rw[xac (by omega)];exact h.mb,by rw[xac (by omega)];exact h.fb,?_,h.own.keep fun g hg=>xac (by have:=(h.own.lt g hg).1;omega) _⟩
 rw[xag h.gb,List.map_set]
 simp
theorem MtL.setT (h:MtL Z bm m kv c ep tm code bl a cap wr)(t:Int):MtL Z bm m kv c ep t code bl a cap (wr.setCell ⟨bm+1,3,none⟩ (.int .i64 t)):=by
 have hd:Below 0 wr (wr.setCell ⟨bm+1,3,none⟩ (.int .i64 t)):=(qzL 0 wr).setCell (Nat.zero_le _) _;refine⟨hd.os.trans h.os,hd.tape.trans h.tape,hd.output.trans h.output,by rw[xa6];exact h.sz,fun b hb=>by rw[xac (by omega)];exact h.fix b hb,by rw[xac (by omega)];exact h.mb,?_,by rw[xac (by omega)];exact h.gb,h.own.keep fun g hg=>xac (by have:=(h.own.lt g hg).1;omega) _⟩
 rw[xag h.fb];rfl
theorem MtL.setC {U:World}{a':Option Addr}{cap':Nat}{ys:List QI}(h:MtL Z bm m kv c ep tm code bl a cap U)(r1:OwnI w' (bm+3) a' cap' (code++ys))(r3:Below (bm+3) U w'):MtL Z bm m kv c ep tm (code++ys) bl a' cap' (w'.setCell ⟨bm+1,4,none⟩ (.slice a' (code++ys).length cap')):=by
 have hd:Below 0 w' (w'.setCell ⟨bm+1,4,none⟩ (.slice a' (code++ys).length cap')):=(qzL 0 w').setCell (Nat.zero_le _) _;have hs:=h.sz;refine⟨hd.os.trans (r3.os.trans h.os),hd.tape.trans (r3.tape.trans h.tape),hd.output.trans (r3.output.trans h.output),by rw[xa6];exact qzD hs r3.size,fun b hb=>by rw[xac (by omega),r3.block b (by omega)];exact h.fix b hb,by rw[xac (by omega),r3.block _ (by omega)];exact h.mb,?_,by rw[xac (by omega),r3.block _ (by omega)];exact h.gb,r1.keep fun g hg=>xac (by have:=(r1.lt g hg).1;omega) _⟩
 rw[xag (show w'.heap[bm+1]?=_ by rw[r3.block _ (by omega)];exact h.fb)];rfl
theorem MtL.below {w:World}(h:MtL Z bm m kv c ep tm code bl a cap wr)(hb:Below w.heap.size w Z)(hl:w.heap.size<=bm):Below w.heap.size w wr:=⟨h.os.trans hb.os,h.tape.trans hb.tape,h.output.trans hb.output,by have:=h.sz;omega,fun b hb'=>(h.fix b (by omega)).trans (hb.block b hb')⟩
theorem MtL.f0 (h:MtL Z bm m kv c ep tm code bl a cap wr):wr.cell? ⟨bm+1,0,none⟩=some (.int .i64 c):=by rw[qzB h.fb];rfl
theorem MtL.f1 (h:MtL Z bm m kv c ep tm code bl a cap wr):wr.cell? ⟨bm+1,1,none⟩=some (.string m.name):=by rw[qzB h.fb];rfl
theorem MtL.f2 (h:MtL Z bm m kv c ep tm code bl a cap wr):wr.cell? ⟨bm+1,2,none⟩=some (.int .i64 ep):=by rw[qzB h.fb];rfl
theorem MtL.f3 (h:MtL Z bm m kv c ep tm code bl a cap wr):wr.cell? ⟨bm+1,3,none⟩=some (.int .i64 tm):=by rw[qzB h.fb];rfl
theorem MtL.f4 (h:MtL Z bm m kv c ep tm code bl a cap wr):wr.cell? ⟨bm+1,4,none⟩=some (.slice a code.length cap):=by rw[qzB h.fb];rfl
theorem MtL.m4 (h:MtL Z bm m kv c ep tm code bl a cap wr):wr.cell? ⟨bm,4,none⟩=some kv:=by rw[qzB h.mb];rfl
theorem MtL.g (h:MtL Z bm m kv c ep tm code bl a cap wr){j:Nat}{t:Int}(hj:bl[j]?=some t):wr.cell? ⟨bm+2,j,none⟩=some (.int .i64 t):=by rw[qzB h.gb];simp[hj]
theorem MtL.ff (h:MtL Z bm m kv c ep tm code bl a cap wr)(o:Nat):wr.frozen? ⟨bm+1,o,none⟩=false:=xbT h.fb o
theorem MtL.gf (h:MtL Z bm m kv c ep tm code bl a cap wr)(o:Nat):wr.frozen? ⟨bm+2,o,none⟩=false:=xbT h.gb o
theorem MtL.old (h:MtL Z bm m kv c ep tm code bl a cap wr){b o:Nat}{v:Value}(hb:b<bm)(hv:Z.cell? ⟨b,o,none⟩=some v):wr.cell? ⟨b,o,none⟩=some v:=by
 unfold World.cell? at hv ⊢;rw[h.fix b hb];exact hv
theorem MtL.capOk (h:MtL Z bm m kv c ep tm code bl a cap wr):code.length<=cap/\cap<=9223372036854775807:=by
 obtain⟨a',c',e,h1,h2⟩:=h.own.form
 cases e;unfold maxLen at h2;exact⟨h1,by omega⟩
end
theorem xhh {s:List Int}{n j:Nat}{t:Int}(hs:s.length=j)(hj:j<n):(s++List.replicate (n-j) 0).set j t=s++[t]++List.replicate (n-(j+1)) 0:=by
 rw[show n-j=(n-(j+1))+1 by omega,List.replicate_succ,List.set_append]
 simp[hs]
def xiz (w:World)(r:Fst × Bool)(e:Ending)(w':World):Prop:=
 ∃ a cap,e=.returned (.tuple #[FsV r.1 (.slice a r.1.code.length cap),.bool r.2])/\xaR (fun b=>w.heap.size<=b/\b<w'.heap.size) w' (.slice a r.1.code.length cap) r.1.code/\Below w.heap.size w w'
end Go.Proofs.Ytdfbgpiikeheiaa
