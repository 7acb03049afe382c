/- A part. -/
import Derived.Test.YtbafokihegegiaaGreatDoorM10
namespace Go.Proofs.YtbafokihegegiaaGreatDoor
open Go.ChangeShapes Go.WideShapes Go.ChangeAt Go.RowKit
set_option linter.unusedSimpArgs false
set_option linter.unusedVariables false
set_option maxHeartbeats 8000000
set_option maxRecDepth 8000
theorem xiX:∀ (ps:List Int) (m:Int),(∀ p∈ps,0<=p)->0<=m->xdA m ps=decide (ps.sum<=m)
 | [],m,_,hm=>by simp[xdA,hm]
 | p :: r,m,h,hm=>by
  have hp:=h p (by simp)
  have hr:∀ q∈r,0<=q:=fun q hq=>h q (by simp[hq])
  have hs:∀ l:List Int,(∀ q∈l,0<=q)->0<=l.sum:=by
   intro l
   induction l with
   | nil=>intro _;simp
   | cons a l ih=>intro hl;have:=ih fun q hq=>hl q (by simp[hq]);have:=hl a (by simp);simp;omega
  have h0:=hs r hr;unfold xdA
  by_cases hc:m<p
  ·rw[if_pos (Or.inr hc)];have:¬ (p :: r).sum<=m:=by simp;omega
   simp only[this,decide_false]
  ·rw[if_neg (by omega),xiX r (m-p) hr (by omega)]
   have:(r.sum<=m-p) ↔ ((p :: r).sum<=m):=by simp;omega
   simp only[this]
theorem xj5 (w:World)(ps:List Int)(t:TypeId)(hl:ps.length<=1000):xfp (fun _=>True) (w.alloc (.cells (ps.map (Value.int .i64)).toArray t)) (.slice (some ⟨w.heap.size,0,none⟩) ps.length ps.length) ps:=by
 refine⟨_,_,rfl,qzC _,by unfold maxLen;omega,by omega,fun i x hx=>⟨w.heap.size,0,rfl,trivial,?_⟩⟩
 show World.cell? _ ⟨w.heap.size,0+i*1+0,none⟩=_
 rw[xab _ _ _ _ rfl]
 simp[hx]
theorem xk5 (f:Fst)(a:Option Addr)(n cap:Nat)(leaf:QM)(ka:Option Addr)(kc:Nat)(w:World)(ha:0<=leaf.args/\leaf.args<=4)(ht:0<=leaf.temps/\leaf.temps<=6)(hs:0<=f.temps/\f.temps<=100)(hn:n<=300)(hl60:leaf.code.length<=60) :
  Calls Tryz.prog 153 #[FsV f (.slice a n cap),MV leaf (.slice ka leaf.code.length kc)] w fun e w'=>e=.returned (PlV f.temps (f.temps+1) (f.temps+1+leaf.args) (xbE leaf n) (xbE leaf n+leaf.code.length))/\Below w.heap.size w w':=by
 have h1:IntKind.i64.wrap (f.temps+1)=f.temps+1:=xal (by omega) (by omega)
 have h2:IntKind.i64.wrap (f.temps+1+leaf.args)=f.temps+1+leaf.args:=xal (by omega) (by omega)
 have h3:IntKind.i64.wrap ((n:Int)+3)=(n:Int)+3:=xal (by omega) (by omega)
 have h4:IntKind.i64.wrap ((n:Int)+3+leaf.args)=(n:Int)+3+leaf.args:=xal (by omega) (by omega)
 have h5:IntKind.i64.wrap (2*leaf.temps)=2*leaf.temps:=xal (by omega) (by omega)
 have h6:IntKind.i64.wrap ((n:Int)+3+leaf.args+2*leaf.temps)=(n:Int)+3+leaf.args+2*leaf.temps:=xal (by omega) (by omega)
 have h7:IntKind.i64.wrap ((n:Int)+3+leaf.args+2*leaf.temps+(leaf.code.length:Int))=(n:Int)+3+leaf.args+2*leaf.temps+(leaf.code.length:Int):=xal (by omega) (by omega)
 go_enter Tryz.func153,Tryz.ntmps153;go_wp2;refine bodyPost_ret (v:=PlV f.temps (f.temps+1) (f.temps+1+leaf.args) (xbE leaf n) (xbE leaf n+leaf.code.length)) ?_ rfl ⟨rfl,?_⟩
 ·simp[results,Tryz.results153,go_sem,xbE]
 ·exact xeQ _ _ _ _
theorem xq2 (n:Nat)(temps:Int)(leaf:QM)(left:Int)(ha:0<=leaf.args/\leaf.args<=4)(ht:0<=leaf.temps/\leaf.temps<=6)(hs:0<=temps)(hl:0<=left):xgP n temps leaf left=(xdA 240 [(n:Int),3,leaf.args,leaf.temps,leaf.temps,(leaf.code.length:Int),left] && xdA 40 [temps,1,leaf.args,leaf.temps]):=by
 rw[xiX _ _ (by intro p hp;simp at hp;rcases hp with rfl | rfl | rfl | rfl | rfl | rfl<;>omega) (by omega),xiX _ _ (by intro p hp;simp at hp;rcases hp with rfl | rfl | rfl | rfl<;>omega) (by omega)]
 unfold xgP;rw[Bool.eq_iff_iff]
 simp
 omega
theorem xko (f:Fst)(a:Option Addr)(n cap:Nat)(leaf:QM)(ka:Option Addr)(kc:Nat)(left:Int)(w:World)(ha:0<=leaf.args/\leaf.args<=4)(ht:0<=leaf.temps/\leaf.temps<=6)(hs:0<=f.temps)(hl:0<=left) :
  Calls Tryz.prog 150 #[FsV f (.slice a n cap),MV leaf (.slice ka leaf.code.length kc),.int .i64 left] w fun e w'=>e=.returned (.bool (xgP n f.temps leaf left))/\Below w.heap.size w w':=by
 have HRM:=xcE (xq2 n f.temps leaf left ha ht hs hl);have hb2:=xbp w (.cells #[.int .i64 f.cls,.string f.name,.int .i64 f.ez,.int .i64 f.temps,.slice a n cap] 187) (.cells #[.string leaf.name,.int .i64 leaf.args,.int .i64 leaf.temps,.int .i64 leaf.prim,.slice ka leaf.code.length kc] 51);have c0:((w.alloc (.cells #[.int .i64 f.cls,.string f.name,.int .i64 f.ez,.int .i64 f.temps,.slice a n cap] 187)).alloc (.cells #[.string leaf.name,.int .i64 leaf.args,.int .i64 leaf.temps,.int .i64 leaf.prim,.slice ka leaf.code.length kc] 51)).cell? ⟨w.heap.size,4,none⟩=some (.slice a n cap):=qzA (xai _ _) (xab w #[.int .i64 f.cls,.string f.name,.int .i64 f.ez,.int .i64 f.temps,.slice a n cap] 187 _ rfl 4)
 have c3:((w.alloc (.cells #[.int .i64 f.cls,.string f.name,.int .i64 f.ez,.int .i64 f.temps,.slice a n cap] 187)).alloc (.cells #[.string leaf.name,.int .i64 leaf.args,.int .i64 leaf.temps,.int .i64 leaf.prim,.slice ka leaf.code.length kc] 51)).cell? ⟨w.heap.size,3,none⟩=some (.int .i64 f.temps):=qzA (xai _ _) (xab w #[.int .i64 f.cls,.string f.name,.int .i64 f.ez,.int .i64 f.temps,.slice a n cap] 187 _ rfl 3);have l1:((w.alloc (.cells #[.int .i64 f.cls,.string f.name,.int .i64 f.ez,.int .i64 f.temps,.slice a n cap] 187)).alloc (.cells #[.string leaf.name,.int .i64 leaf.args,.int .i64 leaf.temps,.int .i64 leaf.prim,.slice ka leaf.code.length kc] 51)).cell? ⟨w.heap.size+1,1,none⟩=some (.int .i64 leaf.args):=xab _ _ _ _ (by simp) 1
 have l2:((w.alloc (.cells #[.int .i64 f.cls,.string f.name,.int .i64 f.ez,.int .i64 f.temps,.slice a n cap] 187)).alloc (.cells #[.string leaf.name,.int .i64 leaf.args,.int .i64 leaf.temps,.int .i64 leaf.prim,.slice ka leaf.code.length kc] 51)).cell? ⟨w.heap.size+1,2,none⟩=some (.int .i64 leaf.temps):=xab _ _ _ _ (by simp) 2
 have l4:((w.alloc (.cells #[.int .i64 f.cls,.string f.name,.int .i64 f.ez,.int .i64 f.temps,.slice a n cap] 187)).alloc (.cells #[.string leaf.name,.int .i64 leaf.args,.int .i64 leaf.temps,.int .i64 leaf.prim,.slice ka leaf.code.length kc] 51)).cell? ⟨w.heap.size+1,4,none⟩=some (.slice ka leaf.code.length kc):=xab _ _ _ _ (by simp) 4
 go_enter Tryz.func150,Tryz.ntmps150
 go_upto_region 1 with (fail)
 generalize ((w.alloc (.cells #[.int .i64 f.cls,.string f.name,.int .i64 f.ez,.int .i64 f.temps,.slice a n cap] 187)).alloc (.cells #[.string leaf.name,.int .i64 leaf.args,.int .i64 leaf.temps,.int .i64 leaf.prim,.slice ka leaf.code.length kc] 51))=W at *;go_wp2_with fail;refine (xlC [(n:Int),3,leaf.args,leaf.temps,leaf.temps,(leaf.code.length:Int),left] _ 240 _ (by omega) (xj5 W [(n:Int),3,leaf.args,leaf.temps,leaf.temps,(leaf.code.length:Int),left] 3 (by simp))).mono ?_
 rintro e w1 ⟨rfl,rfl⟩;have hb1:=xai W (.cells #[.int .i64 (n:Int),.int .i64 3,.int .i64 leaf.args,.int .i64 leaf.temps,.int .i64 leaf.temps,.int .i64 (leaf.code.length:Int),.int .i64 left] 3)
 by_cases h1:xdA 240 [(n:Int),3,leaf.args,leaf.temps,leaf.temps,(leaf.code.length:Int),left]=true
 ·have HV:Hid (xgP n f.temps leaf left=xdA 40 [f.temps,1,leaf.args,leaf.temps]):=by show _=_;rw[HRM.out,h1];rfl
  rw[h1];have d3:=qzA hb1 c3;have e1:=qzA hb1 l1;have e2:=qzA hb1 l2;have HB:=xcE (xaf hb2 hb1);clear h1 c0 c3 l1 l2 l4 hb2;generalize hW1:W.alloc _=W1 at *;go_wp2_with fail;refine (xlC [f.temps,1,leaf.args,leaf.temps] _ 40 _ (by omega) (xj5 W1 [f.temps,1,leaf.args,leaf.temps] 3 (by simp))).mono ?_
  rintro e w2 ⟨rfl,rfl⟩;have HB2:=xcE (xaf HB.out (xai W1 (.cells ([f.temps,1,leaf.args,leaf.temps].map (Value.int .i64)).toArray 3)));go_wp2
  go_ret
  exact⟨xbg HV.out.symm,HB2.out⟩
 ·have h1':xdA 240 [(n:Int),3,leaf.args,leaf.temps,leaf.temps,(leaf.code.length:Int),left]=false:=by simpa using h1
  have HV:Hid (xgP n f.temps leaf left=false):=by show _=_;rw[HRM.out,h1'];rfl
  rw[h1'];have HB:=xcE (xaf hb2 hb1);clear h1 h1';go_wp2
  go_ret
  exact⟨xbg HV.out.symm,HB.out⟩
def LfPost (w:World)(st:Option QM)(e:Ending)(w':World):Prop:=
 ∃ m a c,e=.returned (.tuple #[MV m (.slice a m.code.length c),.bool st.isSome])/\(∀ m',st=some m'->m=m')/\xaG (fun b=>b<w.heap.size) w' (.slice a m.code.length c) m.code/\Below w.heap.size w w'
theorem LfPost.drew {w w':World}{st:Option QM}{e:Ending}(h:LfPost w st e w'):LfPost w st e w'.drew:=by
 obtain⟨m,a,c,h1,h2,h3,h4⟩:=h
 exact⟨m,a,c,h1,h2,h3.later xaU (Below.refl _ _).drew,h4.drew⟩
theorem xor {w U:World}{st:Option QM}{m:QM}{a:Option Addr}{c:Nat}{b:Bool}(hst:st=if b then some m else none)(hb:Below w.heap.size w U)(hco:xaG (fun b=>b<w.heap.size) U (.slice a m.code.length c) m.code):LfPost w st (.returned (.tuple #[MV m (.slice a m.code.length c),.bool b])) (xmT U (w.heap.size+2) (.string m.name) (.int .i64 m.args) (.int .i64 m.temps) (.int .i64 m.prim) (.slice a m.code.length c)):=by
 refine⟨m,a,c,?_,?_,hco.keep xaU (Keeps.of_block fun b hb _=>xsN (by omega)) fun _ h=>h,xsA hb (by omega)⟩
 ·cases b<;>simp[hst]
 ·intro m' h;rw[hst] at h
  cases b
  ·cases h
  ·cases h;rfl
abbrev zM0:QM:=⟨⟨#[]⟩,0,0,0,[]⟩
theorem xqB {w U:World}(hb:Below w.heap.size w U):LfPost w none (.returned (.tuple #[MV zM0 (.slice none 0 0),.bool false])) (xmT U (w.heap.size+2) (.string ⟨#[]⟩) (.int .i64 0) (.int .i64 0) (.int .i64 0) (.slice none 0 0)):=
 xor (m:=zM0) (a:=none) (c:=0) (b:=false) rfl hb xb9
structure LfB (w:World)(cv hv:Value)(ep:Int)(x:QI)(w':World):Prop where
 w0:w'.cell? ⟨w.heap.size,0,none⟩=some cv
 w1:w'.cell? ⟨w.heap.size,1,none⟩=some hv
 w2:w'.cell? ⟨w.heap.size,2,none⟩=some (.int .i64 ep)
 x0:w'.cell? ⟨w.heap.size+1,0,none⟩=some (.int .i64 x.op)
 x1:w'.cell? ⟨w.heap.size+1,1,none⟩=some (.int .i64 x.a)
 x4:w'.cell? ⟨w.heap.size+1,4,none⟩=some (.string x.name)
 z0:w'.cell? ⟨w.heap.size+2,0,none⟩=some (.string ⟨#[]⟩)
 z1:w'.cell? ⟨w.heap.size+2,1,none⟩=some (.int .i64 0)
 z2:w'.cell? ⟨w.heap.size+2,2,none⟩=some (.int .i64 0)
 z3:w'.cell? ⟨w.heap.size+2,3,none⟩=some (.int .i64 0)
 z4:w'.cell? ⟨w.heap.size+2,4,none⟩=some (.slice none 0 0)
 zf:∀ o,w'.frozen? ⟨w.heap.size+2,o,none⟩=false
 sz:w.heap.size+3<=w'.heap.size
theorem LfB.later {w:World}{cv hv:Value}{ep:Int}{x:QI}{w' w'':World}(h:LfB w cv hv ep x w')(hb:Below w'.heap.size w' w''):LfB w cv hv ep x w'':=
 ⟨qzA hb h.w0,qzA hb h.w1,qzA hb h.w2,qzA hb h.x0,qzA hb h.x1,qzA hb h.x4,qzA hb h.z0,qzA hb h.z1,qzA hb h.z2,qzA hb h.z3,qzA hb h.z4,fun o=>(hb.frozen (p:=⟨w.heap.size+2,o,none⟩) (by have:=h.sz;simp only;omega)).trans (h.zf o),qzD h.sz hb.size⟩
theorem xrX (w:World)(cv hv:Value)(ep:Int)(x:QI):LfB w cv hv ep x (((w.alloc (.cells #[cv,hv,.int .i64 ep] 26)).alloc (.cells #[.int .i64 x.op,.int .i64 x.a,.int .i64 x.b,.int .i64 x.c,.string x.name] 69)).alloc (.cells #[.string ⟨#[]⟩,.int .i64 0,.int .i64 0,.int .i64 0,.slice none 0 0] 51)):=by
 have e1:(w.alloc (.cells #[cv,hv,.int .i64 ep] 26)).heap.size=w.heap.size+1:=by simp
 have e2:((w.alloc (.cells #[cv,hv,.int .i64 ep] 26)).alloc (.cells #[.int .i64 x.op,.int .i64 x.a,.int .i64 x.b,.int .i64 x.c,.string x.name] 69)).heap.size=w.heap.size+2:=by simp
 exact⟨qzA (xbp _ _ _) (xab w #[cv,hv,.int .i64 ep] 26 _ rfl 0),qzA (xbp _ _ _) (xab w #[cv,hv,.int .i64 ep] 26 _ rfl 1),qzA (xbp _ _ _) (xab w #[cv,hv,.int .i64 ep] 26 _ rfl 2),qzA (xai _ _) (xab _ _ _ _ e1 0),qzA (xai _ _) (xab _ _ _ _ e1 1),qzA (xai _ _) (xab _ _ _ _ e1 4),xab _ _ _ _ e2 0,xab _ _ _ _ e2 1,xab _ _ _ _ e2 2,xab _ _ _ _ e2 3,xab _ _ _ _ e2 4,xb5 (cur:=#[.string ⟨#[]⟩,.int .i64 0,.int .i64 0,.int .i64 0,.slice none 0 0]) (t:=51) (by rw[← e2];exact heap_alloc_new _ _),by simp⟩
theorem xmD {P Q:Nat->Prop}(X:QW)(sites:List Int)(at':Nat)(x:QI)(cv hv sv:Value)(w:World)(hC:xag P w cv X.cz)(hH:xav P w hv X.heap)(hS:xfp Q w sv sites) :
  Calls Tryz.prog 149 #[WV cv hv X.ez,sv,.int .i64 (at':Int),IV x] w fun e w'=>LfPost w (xaY X.cz sites at' x) e w':=by
 obtain⟨ac,cc,rfl,-,hcc,-,hrowC⟩:=id (xev hC);obtain⟨ah,ch,rfl,-⟩:=id hH;obtain⟨asv,cs,rfl,hls,hcs,-,hrow⟩:=id hS;unfold maxLen at hcs hcc;have hB0:=xrX w (.slice ac X.cz.length cc) (.slice ah X.heap.length ch) X.ez x;have hbW:=xeQ w (.cells #[.slice ac X.cz.length cc,.slice ah X.heap.length ch,.int .i64 X.ez] 26) (.cells #[.int .i64 x.op,.int .i64 x.a,.int .i64 x.b,.int .i64 x.c,.string x.name] 69) (.cells #[.string ⟨#[]⟩,.int .i64 0,.int .i64 0,.int .i64 0,.slice none 0 0] 51);go_enter Tryz.func149,Tryz.ntmps149
 go_upto_region 1 with (fail)
 simp only[Nat.add_assoc,Nat.reduceAdd];generalize (((w.alloc (.cells #[.slice ac X.cz.length cc,.slice ah X.heap.length ch,.int .i64 X.ez] 26)).alloc (.cells #[.int .i64 x.op,.int .i64 x.a,.int .i64 x.b,.int .i64 x.c,.string x.name] 69)).alloc (.cells #[.string ⟨#[]⟩,.int .i64 0,.int .i64 0,.int .i64 0,.slice none 0 0] 51))=W at *;have HN:Hid (∀ U,Below w.heap.size w U->xaY X.cz sites at' x=none->LfPost w (xaY X.cz sites at' x) (.returned (.tuple #[MV zM0 (.slice none 0 0),.bool false])) (xmT U (w.heap.size+2) (.string ⟨#[]⟩) (.int .i64 0) (.int .i64 0) (.int .i64 0) (.slice none 0 0))):=fun U hb h=>by rw[h];exact xqB hb
 obtain⟨k0,k1,k2,x0,x1,x4,z0,z1,z2,z3,z4,zf,sz⟩:=id hB0
 by_cases hop:x.op=14
 ·have hd:(x.op == 14)=true:=by simpa using hop
  have hdn:(x.op != 14)=false:=by simpa using hop
  have HOP:=xcE hop;rw[hop] at x0;clear hop hd hdn
  by_cases hlt:at'<sites.length
  ·obtain⟨k,hk⟩:∃ k,sites[at']?=some k:=⟨sites[at'],by simp[hlt]⟩
   have HK:Hid (sites.getD at' (-1)=k):=by show _=_;rw[List.getD_eq_getElem?_getD,hk];rfl
   obtain⟨bs,os,rfl,-,y0⟩:=hrow at' k hk;replace y0:w.cell? ⟨bs,os+at',none⟩=some (.int .i64 k):=by simpa [xqf] using y0
   have y1:=qzA hbW y0;have hj1:(at':Int)<(sites.length:Int):=by omega
   have hj0:(0:Int)<=(at':Int):=by omega
   have hge:¬ ((sites.length:Int)<=(at':Int)):=by omega
   clear hrow hk
   by_cases hk0:k<0
   ·have hkd:decide (k<0)=true:=by simpa using hk0
    have HZ:=xcE (HN.out W hbW (by unfold xaY;rw[if_neg (by rw[HK.out];omega)]))
    clear hk0;go_wp2;refine bodyPost_ret (v:=.tuple #[MV zM0 (.slice none 0 0),.bool false]) ?_ rfl HZ.out
    simp[results,Tryz.results149,go_sem,z0,z1,z2,z3,z4]
   ·have hkd:decide (k<0)=false:=by simpa using hk0
    have HK0:=xcE hk0
    have hSl:∀ w',Below W.heap.size W w'->w'.cell? ⟨w.heap.size,0,none⟩=some (.slice ac X.cz.length cc)/\w'.cell? ⟨w.heap.size,1,none⟩=some (.slice ah X.heap.length ch)/\w'.cell? ⟨w.heap.size,2,none⟩=some (.int .i64 X.ez)/\w'.cell? ⟨bs,os+at',none⟩=some (.int .i64 k)/\w'.cell? ⟨w.heap.size+1,4,none⟩=some (.string x.name):=fun w' hb=>by
     have h:=hB0.later hb
     exact⟨h.w0,h.w1,h.w2,qzA hb y1,h.x4⟩
    have hS0:=hSl _ (Below.refl _ W).drew;clear hk0
    go_upto_region 3 with (fail)
    refine xat (S:=fun w'=>w'.cell? ⟨w.heap.size,0,none⟩=some (.slice ac X.cz.length cc)/\w'.cell? ⟨w.heap.size,1,none⟩=some (.slice ah X.heap.length ch)/\w'.cell? ⟨w.heap.size,2,none⟩=some (.int .i64 X.ez)/\w'.cell? ⟨bs,os+at',none⟩=some (.int .i64 k)/\w'.cell? ⟨w.heap.size+1,4,none⟩=some (.string x.name)) [] (by kernel_rfl) ?_
    refine tk 0 (⟨some 31,.load 26 (.tmp 4),26,_,_,none⟩) (WV (.slice ac X.cz.length cc) (.slice ah X.heap.length ch) X.ez) rfl (hS0) (fun _ _ _ h=>h) rfl (by kernel_rfl) ?_ ?_
    ·intro w hSw;obtain⟨q0,q1,q2,q3,q4⟩:=hSw;go_simp
    try simp only[Act.put,qzF,qzG,qzH]
    refine tk 1 (⟨some 32,.move (.tmp 1),47,_,_,none⟩) (.slice (some ⟨bs,os,none⟩) sites.length cs) rfl (hS0) (fun _ _ _ h=>h) rfl (by kernel_rfl) ?_ ?_
    ·intro w hSw;obtain⟨q0,q1,q2,q3,q4⟩:=hSw;go_simp
    try simp only[Act.put,qzF,qzG,qzH]
    refine tk 2 (⟨some 33,.move (.tmp 2),3,_,_,none⟩) (.int .i64 (at':Int)) rfl (hS0) (fun _ _ _ h=>h) rfl (by kernel_rfl) ?_ ?_
    ·intro w hSw;obtain⟨q0,q1,q2,q3,q4⟩:=hSw;go_simp
    try simp only[Act.put,qzF,qzG,qzH]
    refine tk 3 (⟨some 34,.indexAddr 47 (.tmp 32) (.tmp 33),0,_,_,none⟩) (.pointer (some ⟨bs,os+at',none⟩)) rfl (hS0) (fun _ _ _ h=>h) rfl (by kernel_rfl) ?_ ?_
    ·intro w hSw;obtain⟨q0,q1,q2,q3,q4⟩:=hSw;go_simp
    try simp only[Act.put,qzF,qzG,qzH]
    refine tk 4 (⟨some 35,.load 3 (.tmp 34),3,_,_,none⟩) (.int .i64 k) rfl (hS0) (fun _ _ _ h=>h) rfl (by kernel_rfl) ?_ ?_
    ·intro w hSw;obtain⟨q0,q1,q2,q3,q4⟩:=hSw;go_simp
    try simp only[Act.put,qzF,qzG,qzH]
    refine tk 5 (⟨some 36,.fieldAddr 69 (.tmp 7) 4,0,_,_,none⟩) (.pointer (some ⟨w.heap.size+1,4,none⟩)) rfl (hS0) (fun _ _ _ h=>h) rfl (by kernel_rfl) ?_ ?_
    ·intro w hSw;obtain⟨q0,q1,q2,q3,q4⟩:=hSw;go_simp
    try simp only[Act.put,qzF,qzG,qzH]
    refine tk 6 (⟨some 37,.load 9 (.tmp 36),9,_,_,none⟩) (.string x.name) rfl (hS0) (fun _ _ _ h=>h) rfl (by kernel_rfl) ?_ ?_
    ·intro w hSw;obtain⟨q0,q1,q2,q3,q4⟩:=hSw;go_simp
    try simp only[Act.put,qzF,qzG,qzH]
    refine xao (rs:=[7]) (by kernel_rfl) (by simp) ?_
    intro i hi;simp only[List.mem_cons,List.not_mem_nil,or_false] at hi;subst hi;refine xa0 (o:=⟨some 38,.call ⟨.value (.func 142),#[.tmp 31,.tmp 35,.tmp 37],#[26,3,9]⟩,132,_,_,none⟩) rfl (fun K' hK=>?_)
    refine xa1 rfl 142 (.func 142) #[.tmp 31,.tmp 35,.tmp 37] _ rfl #[] rfl #[WV (.slice ac X.cz.length cc) (.slice ah X.heap.length ch) X.ez,.int .i64 k,.string x.name] (by simp[Act.eval,Act.put]) (cf45 _ _) ?_
    refine (show Calls Tryz.prog 142 #[WV (.slice ac X.cz.length cc) (.slice ah X.heap.length ch) X.ez,.int .i64 k,.string x.name] W.drew _ from (xc4 X k x.name _ _ W.drew (hC.later xax hbW.drew) (hH.later xaB hbW.drew)).mono ?_)
    rintro e w1 ⟨rfl,hb1⟩;refine⟨_,rfl,?_⟩;have hbW1:Below W.heap.size W w1:=xaf (Below.refl _ W).drew hb1;refine hK _ _ (fun _=>?_) ?_
    ·exact hSl _ hbW1
    clear hK K'
    try simp only[Act.put,qzF,qzG,qzH]
    obtain⟨fc,fj,hf⟩:∃ fc fj,xak X.cz k x.name=(fc,fj):=⟨_,_,rfl⟩;simp only[hf];refine tk 8 (⟨some 30,.move (.tmp 38),132,_,_,none⟩) (.tuple #[.int .i64 fc,.int .i64 fj]) rfl (hSl _ hbW1) (fun _ _ _ h=>h) rfl (by kernel_rfl) ?_ ?_
    ·intro w hSw;obtain⟨q0,q1,q2,q3,q4⟩:=hSw;go_simp
    try simp only[Act.put,qzF,qzG,qzH]
    refine tk 9 (⟨some 39,.extract (.tmp 30) 0,3,_,_,none⟩) (.int .i64 fc) rfl (hSl _ hbW1) (fun _ _ _ h=>h) rfl (by kernel_rfl) ?_ ?_
    ·intro w hSw;obtain⟨q0,q1,q2,q3,q4⟩:=hSw;go_simp
    try simp only[Act.put,qzF,qzG,qzH]
    refine tk 10 (⟨some 40,.extract (.tmp 30) 1,3,_,_,none⟩) (.int .i64 fj) rfl (hSl _ hbW1) (fun _ _ _ h=>h) rfl (by kernel_rfl) ?_ ?_
    ·intro w hSw;obtain⟨q0,q1,q2,q3,q4⟩:=hSw;go_simp
    try simp only[Act.put,qzF,qzG,qzH]
    refine tk 11 (⟨some 10,.assign (.tmp 39),3,_,_,none⟩) (.int .i64 fc) rfl (hSl _ hbW1) (fun _ _ _ h=>h) rfl (by kernel_rfl) ?_ ?_
    ·intro w hSw;obtain⟨q0,q1,q2,q3,q4⟩:=hSw;go_simp
    try simp only[Act.put,qzF,qzG,qzH]
    refine tk 12 (⟨some 11,.assign (.tmp 40),3,_,_,none⟩) (.int .i64 fj) rfl (hSl _ hbW1) (fun _ _ _ h=>h) rfl (by kernel_rfl) ?_ ?_
    ·intro w hSw;obtain⟨q0,q1,q2,q3,q4⟩:=hSw;go_simp
    try simp only[Act.put,qzF,qzG,qzH]
    refine xaE (by kernel_rfl) ?_ _
    try simp only[Act.put,qzF,qzG,qzH]
    have hb1w:Below w.heap.size w w1:=xaf hbW hbW1;replace hB0:=hB0.later hbW1;clear k0 k1 k2 x0 x1 x4 z0 z1 z2 z3 z4 zf sz hSl hS0 hb1 y0 y1;obtain⟨k0,k1,k2,x0,x1,x4,z0,z1,z2,z3,z4,zf,sz⟩:=id hB0;have HSI:Hid (xaY X.cz sites at' x=match xes X.cz k x.name with | none=>none | some m=>if m.args=x.a/\xdw m=true then some m else none):=by show _=_;unfold xaY;rw[HK.out,if_pos ⟨HOP.out,by have:=HK0.out;omega⟩];cases xes X.cz k x.name<;>rfl
    rcases xfs X.cz k x.name with ⟨h1,h2⟩ | ⟨qc,xc,tc,m,he,hxc,hm⟩
    ·rw[hf] at h1 h2;simp only at h1 h2;have hfd:decide (fc<0)=true:=by simpa using h1
     have HZ:=xcE (HN.out w1 hb1w (by rw[HSI.out];unfold xes;rw[hf,if_pos h2]))
     clear h1 h2;go_wp2;refine bodyPost_ret (v:=.tuple #[MV zM0 (.slice none 0 0),.bool false]) ?_ rfl HZ.out
     simp[results,Tryz.results149,go_sem,z0,z1,z2,z3,z4]
    ·have HSM:Hid (xaY X.cz sites at' x=if m.args=x.a/\xdw m=true then some m else none):=by
      show _=_
      rw[HSI.out];have:xes X.cz k x.name=some m:=by unfold xes;rw[he];simp[hxc,hm]
      rw[this]
     rw[hf] at he;obtain⟨rfl,rfl⟩:fc=(qc:Int)/\fj=(tc:Int):=by cases he;exact⟨rfl,rfl⟩
     obtain⟨b1,o1,rfl,-,-,-,-,-,mv,u3,hms⟩:=hrowC qc xc hxc;obtain⟨am,cm,rfl,hlm,hcm,-,hrm⟩:=hms;obtain⟨b2,o2,rfl,-,v0,v1,v2,v3,-,kv,v4,hco0⟩:=hrm tc m hm;obtain⟨ak,ck,rfl,-⟩:=id hco0;simp only[Nat.add_zero] at v0;unfold maxLen at hcm;have hq:=xad hxc;have ht:=xad hm;have hq1:(qc:Int)<(X.cz.length:Int):=by omega
     have hq0:(0:Int)<=(qc:Int):=by omega
     have ht1:(tc:Int)<(xc.mz.length:Int):=by omega
     have ht0:(0:Int)<=(tc:Int):=by omega
     have hqn:decide ((qc:Int)<0)=false:=by simp
     replace u3:=qzA hb1w u3;replace v0:=qzA hb1w v0;replace v1:=qzA hb1w v1;replace v2:=qzA hb1w v2;replace v3:=qzA hb1w v3;replace v4:=qzA hb1w v4;have hbV1:=xai w1 (.cells #[.string m.name,.int .i64 m.args,.int .i64 m.temps,.int .i64 m.prim,.slice ak m.code.length ck] 51);have hco:=(hco0.later xaU hb1w).later xaU hbV1;have hbV:=xaf hb1w hbV1;have hBV:=hB0.later hbV1;have hS12:(w1.alloc (.cells #[.string m.name,.int .i64 m.args,.int .i64 m.temps,.int .i64 m.prim,.slice ak m.code.length ck] 51)).heap[w1.heap.size]?=some (.cells #[.string m.name,.int .i64 m.args,.int .i64 m.temps,.int .i64 m.prim,.slice ak m.code.length ck] 51 (0,0)):=heap_alloc_new _ _
     have hszz:=hB0.sz;clear hrowC hrm hxc hm he hf
     go_upto_region 7 with (fail)
     generalize (w1.alloc (.cells #[.string m.name,.int .i64 m.args,.int .i64 m.temps,.int .i64 m.prim,.slice ak m.code.length ck] 51))=V at *;generalize hb12:w1.heap.size=b12 at *
     have hSl:∀ w',Below V.heap.size V w'->w'.cell? ⟨b12,0,none⟩=some (.string m.name)/\w'.cell? ⟨b12,1,none⟩=some (.int .i64 m.args)/\w'.cell? ⟨b12,2,none⟩=some (.int .i64 m.temps)/\w'.cell? ⟨b12,3,none⟩=some (.int .i64 m.prim)/\w'.cell? ⟨b12,4,none⟩=some (.slice ak m.code.length ck)/\w'.cell? ⟨w.heap.size+1,1,none⟩=some (.int .i64 x.a):=fun w' hb=>by
      have h:=xaa hS12 hb
      exact⟨by rw[qzB h];rfl,by rw[qzB h];rfl,by rw[qzB h];rfl,by rw[qzB h];rfl,by rw[qzB h];rfl,(hBV.later hb).x1⟩
     have hZ:∀ w',Below V.heap.size V w'->w'.cell? ⟨w.heap.size+2,0,none⟩=some (.string ⟨#[]⟩)/\w'.cell? ⟨w.heap.size+2,1,none⟩=some (.int .i64 0)/\w'.cell? ⟨w.heap.size+2,2,none⟩=some (.int .i64 0)/\w'.cell? ⟨w.heap.size+2,3,none⟩=some (.int .i64 0)/\w'.cell? ⟨w.heap.size+2,4,none⟩=some (.slice none 0 0)/\∀ o,w'.frozen? ⟨w.heap.size+2,o,none⟩=false:=fun w' hb=>by
      have h:=hBV.later hb
      exact⟨h.z0,h.z1,h.z2,h.z3,h.z4,h.zf⟩
     have hS7:=hSl _ (Below.refl _ V).drew;clear k0 k1 k2 x0 x1 x4 z0 z1 z2 z3 z4 zf sz u3 v0 v1 v2 v3 v4
     by_cases hea:m.args=x.a
     ·have heb:(m.args == x.a)=true:=by simpa using hea
      have HST:Hid (xaY X.cz sites at' x=if xdw m then some m else none):=by show _=_;rw[HSM.out];simp[hea]
      clear hea;refine xat (S:=fun w'=>w'.cell? ⟨b12,0,none⟩=some (.string m.name)/\w'.cell? ⟨b12,1,none⟩=some (.int .i64 m.args)/\w'.cell? ⟨b12,2,none⟩=some (.int .i64 m.temps)/\w'.cell? ⟨b12,3,none⟩=some (.int .i64 m.prim)/\w'.cell? ⟨b12,4,none⟩=some (.slice ak m.code.length ck)/\w'.cell? ⟨w.heap.size+1,1,none⟩=some (.int .i64 x.a)) [] (by kernel_rfl) ?_
      refine tk 0 (⟨some 53,.load 51 (.tmp 12),51,_,_,none⟩) (MV m (.slice ak m.code.length ck)) rfl (hS7) (fun _ _ _ h=>h) rfl (by kernel_rfl) ?_ ?_
      ·intro w hSw;obtain⟨q0,q1,q2,q3,q4,q5⟩:=hSw;go_simp
      try simp only[Act.put,qzF,qzG,qzH]
      refine tk 1 (⟨some 54,.fieldAddr 51 (.tmp 12) 1,0,_,_,none⟩) (.pointer (some ⟨b12,1,none⟩)) rfl (hS7) (fun _ _ _ h=>h) rfl (by kernel_rfl) ?_ ?_
      ·intro w hSw;obtain⟨q0,q1,q2,q3,q4,q5⟩:=hSw;go_simp
      try simp only[Act.put,qzF,qzG,qzH]
      refine tk 2 (⟨some 55,.load 3 (.tmp 54),3,_,_,none⟩) (.int .i64 m.args) rfl (hS7) (fun _ _ _ h=>h) rfl (by kernel_rfl) ?_ ?_
      ·intro w hSw;obtain⟨q0,q1,q2,q3,q4,q5⟩:=hSw;go_simp
      try simp only[Act.put,qzF,qzG,qzH]
      refine tk 3 (⟨some 56,.fieldAddr 69 (.tmp 7) 1,0,_,_,none⟩) (.pointer (some ⟨w.heap.size+1,1,none⟩)) rfl (hS7) (fun _ _ _ h=>h) rfl (by kernel_rfl) ?_ ?_
      ·intro w hSw;obtain⟨q0,q1,q2,q3,q4,q5⟩:=hSw;go_simp
      try simp only[Act.put,qzF,qzG,qzH]
      refine tk 4 (⟨some 57,.load 3 (.tmp 56),3,_,_,none⟩) (.int .i64 x.a) rfl (hS7) (fun _ _ _ h=>h) rfl (by kernel_rfl) ?_ ?_
      ·intro w hSw;obtain⟨q0,q1,q2,q3,q4,q5⟩:=hSw;go_simp
      try simp only[Act.put,qzF,qzG,qzH]
      refine tk 5 (⟨some 58,.binOp .eql 3 (.tmp 55) (.tmp 57) 3,4,_,_,none⟩) (.bool true) rfl (hS7) (fun _ _ _ h=>h) rfl (by kernel_rfl) ?_ ?_
      ·intro w hSw;obtain⟨q0,q1,q2,q3,q4,q5⟩:=hSw;go_simp
      try simp only[Act.put,qzF,qzG,qzH]
      refine tk 6 (⟨some 59,.move (.tmp 58),4,_,_,none⟩) (.bool true) rfl (hS7) (fun _ _ _ h=>h) rfl (by kernel_rfl) ?_ ?_
      ·intro w hSw;obtain⟨q0,q1,q2,q3,q4,q5⟩:=hSw;go_simp
      try simp only[Act.put,qzF,qzG,qzH]
      refine tk 7 (⟨some 60,.load 51 (.tmp 12),51,_,_,some (6,true)⟩) (MV m (.slice ak m.code.length ck)) rfl (hS7) (fun _ _ _ h=>h) rfl (by kernel_rfl) ?_ ?_
      ·intro w hSw;obtain⟨q0,q1,q2,q3,q4,q5⟩:=hSw;go_simp
      try simp only[Act.put,qzF,qzG,qzH]
      refine xao (rs:=[8]) (by kernel_rfl) (by simp) ?_
      intro i hi;simp only[List.mem_cons,List.not_mem_nil,or_false] at hi;subst hi;refine xa0 (o:=⟨some 61,.call ⟨.value (.func 198),#[.tmp 60],#[51]⟩,4,_,_,some (6,true)⟩) rfl (fun K' hK=>?_)
      refine xft (by rfl) 198 (.func 198) #[.tmp 60] _ rfl #[] rfl #[MV m (.slice ak m.code.length ck)] (by simp[Act.eval,Act.put]) (cf46 _ _) ?_
      refine (show Calls Tryz.prog 198 #[MV m (.slice ak m.code.length ck)] V.drew _ from (xlq m _ V.drew (hco.later xaU (Below.refl _ V).drew)).mono ?_)
      rintro e w5 ⟨rfl,hb5⟩;refine⟨_,rfl,?_⟩;have hbV5:Below V.heap.size V w5:=xaf (Below.refl _ V).drew hb5;obtain⟨r0,r1,r2,r3,r4,rf⟩:=hZ _ hbV5;obtain⟨z0,z1,z2,z3,z4,z5⟩:=hSl _ hbV5;refine hK _ _ (fun _=>?_) ?_
      ·exact hSl _ hbV5
      clear hK K'
      try simp only[Act.put,qzF,qzG,qzH]
      refine tk 9 (⟨some 62,.pick (.tmp 59) (.tmp 61) (.const (.bool false)),4,_,_,none⟩) (.bool (xdw m)) rfl (hSl _ hbV5) (fun _ _ _ h=>h) rfl (by kernel_rfl) ?_ ?_
      ·intro w hSw;obtain⟨q0,q1,q2,q3,q4,q5⟩:=hSw;go_simp
      try simp only[Act.put,qzF,qzG,qzH]
      refine xao (rs:=[10]) (by kernel_rfl) (by simp) ?_
      intro i hi;simp only[List.mem_cons,List.not_mem_nil,or_false] at hi;subst hi;refine xa0 (o:=⟨none,.store 51 (.tmp 8) (.tmp 53),0,_,_,none⟩) rfl (fun K' hK=>?_)
      go_simp;refine hK _ _ (fun _=>?_) ?_
      ·exact⟨xdd z0 (by omega),xdd z1 (by omega),xdd z2 (by omega),xdd z3 (by omega),xdd z4 (by omega),xdd z5 (by omega)⟩
      clear hK K'
      try simp only[Act.put,qzF,qzG,qzH]
      refine tk 11 (⟨some 9,.assign (.tmp 62),4,_,_,none⟩) (.bool (xdw m)) rfl (⟨xdd z0 (by omega),xdd z1 (by omega),xdd z2 (by omega),xdd z3 (by omega),xdd z4 (by omega),xdd z5 (by omega)⟩) (fun _ _ _ h=>h) rfl (by kernel_rfl) ?_ ?_
      ·intro w hSw;obtain⟨q0,q1,q2,q3,q4,q5⟩:=hSw;go_simp
      try simp only[Act.put,qzF,qzG,qzH]
      refine xaE (by kernel_rfl) ?_ _
      try simp only[Act.put,qzF,qzG,qzH]
      have HQ:=xcE (xor (U:=w5) (m:=m) (a:=ak) (c:=ck) HST.out (xaf hbV hbV5) (hco.later xaU hbV5));go_wp2;refine bodyPost_ret (v:=.tuple #[MV m (.slice ak m.code.length ck),.bool (xdw m)]) ?_ rfl HQ.out
      simp[results,Tryz.results149,go_sem,r0,r1,r2,r3,r4]
     ·have heb:(m.args == x.a)=false:=by simpa using hea
      have HST:Hid (xaY X.cz sites at' x=if false then some m else none):=by show _=_;rw[HSM.out];simp[hea]
      clear hea;refine xat (S:=fun w'=>w'.cell? ⟨b12,0,none⟩=some (.string m.name)/\w'.cell? ⟨b12,1,none⟩=some (.int .i64 m.args)/\w'.cell? ⟨b12,2,none⟩=some (.int .i64 m.temps)/\w'.cell? ⟨b12,3,none⟩=some (.int .i64 m.prim)/\w'.cell? ⟨b12,4,none⟩=some (.slice ak m.code.length ck)/\w'.cell? ⟨w.heap.size+1,1,none⟩=some (.int .i64 x.a)) [] (by kernel_rfl) ?_
      refine tk 0 (⟨some 53,.load 51 (.tmp 12),51,_,_,none⟩) (MV m (.slice ak m.code.length ck)) rfl (hS7) (fun _ _ _ h=>h) rfl (by kernel_rfl) ?_ ?_
      ·intro w hSw;obtain⟨q0,q1,q2,q3,q4,q5⟩:=hSw;go_simp
      try simp only[Act.put,qzF,qzG,qzH]
      refine tk 1 (⟨some 54,.fieldAddr 51 (.tmp 12) 1,0,_,_,none⟩) (.pointer (some ⟨b12,1,none⟩)) rfl (hS7) (fun _ _ _ h=>h) rfl (by kernel_rfl) ?_ ?_
      ·intro w hSw;obtain⟨q0,q1,q2,q3,q4,q5⟩:=hSw;go_simp
      try simp only[Act.put,qzF,qzG,qzH]
      refine tk 2 (⟨some 55,.load 3 (.tmp 54),3,_,_,none⟩) (.int .i64 m.args) rfl (hS7) (fun _ _ _ h=>h) rfl (by kernel_rfl) ?_ ?_
      ·intro w hSw;obtain⟨q0,q1,q2,q3,q4,q5⟩:=hSw;go_simp
      try simp only[Act.put,qzF,qzG,qzH]
      refine tk 3 (⟨some 56,.fieldAddr 69 (.tmp 7) 1,0,_,_,none⟩) (.pointer (some ⟨w.heap.size+1,1,none⟩)) rfl (hS7) (fun _ _ _ h=>h) rfl (by kernel_rfl) ?_ ?_
      ·intro w hSw;obtain⟨q0,q1,q2,q3,q4,q5⟩:=hSw;go_simp
      try simp only[Act.put,qzF,qzG,qzH]
      refine tk 4 (⟨some 57,.load 3 (.tmp 56),3,_,_,none⟩) (.int .i64 x.a) rfl (hS7) (fun _ _ _ h=>h) rfl (by kernel_rfl) ?_ ?_
      ·intro w hSw;obtain⟨q0,q1,q2,q3,q4,q5⟩:=hSw;go_simp
      try simp only[Act.put,qzF,qzG,qzH]
      refine tk 5 (⟨some 58,.binOp .eql 3 (.tmp 55) (.tmp 57) 3,4,_,_,none⟩) (.bool false) rfl (hS7) (fun _ _ _ h=>h) rfl (by kernel_rfl) ?_ ?_
      ·intro w hSw;obtain⟨q0,q1,q2,q3,q4,q5⟩:=hSw;go_simp
      try simp only[Act.put,qzF,qzG,qzH]
      refine tk 6 (⟨some 59,.move (.tmp 58),4,_,_,none⟩) (.bool false) rfl (hS7) (fun _ _ _ h=>h) rfl (by kernel_rfl) ?_ ?_
      ·intro w hSw;obtain⟨q0,q1,q2,q3,q4,q5⟩:=hSw;go_simp
      try simp only[Act.put,qzF,qzG,qzH]
      refine xeD (i:=7) (oi:=⟨some 60,.load 51 (.tmp 12),51,_,_,some (6,true)⟩) (v:=undef) (by kernel_rfl) (by kernel_rfl) rfl (by kernel_rfl) (by kernel_rfl) (by kernel_rfl) (fun _ _ _ h=>h) (Or.inr ⟨by rfl,rfl⟩) (hS7) ?_
      try simp only[Act.put,qzF,qzG,qzH]
      refine xeD (i:=8) (oi:=⟨some 61,.call ⟨.value (.func 198),#[.tmp 60],#[51]⟩,4,_,_,some (6,true)⟩) (v:=undef) (by kernel_rfl) (by kernel_rfl) rfl (by kernel_rfl) (by kernel_rfl) (by kernel_rfl) (fun _ _ _ h=>h) (Or.inr ⟨by rfl,rfl⟩) (hS7) ?_
      try simp only[Act.put,qzF,qzG,qzH]
      refine tk 9 (⟨some 62,.pick (.tmp 59) (.tmp 61) (.const (.bool false)),4,_,_,none⟩) (.bool false) rfl (hS7) (fun _ _ _ h=>h) rfl (by kernel_rfl) ?_ ?_
      ·intro w hSw;obtain⟨q0,q1,q2,q3,q4,q5⟩:=hSw;go_simp
      try simp only[Act.put,qzF,qzG,qzH]
      refine xao (rs:=[10]) (by kernel_rfl) (by simp) ?_
      intro i hi;simp only[List.mem_cons,List.not_mem_nil,or_false] at hi;subst hi;refine xa0 (o:=⟨none,.store 51 (.tmp 8) (.tmp 53),0,_,_,none⟩) rfl (fun K' hK=>?_)
      obtain⟨r0,r1,r2,r3,r4,rf⟩:=hZ _ (Below.refl _ V);obtain⟨z0,z1,z2,z3,z4,z5⟩:=hSl _ (Below.refl _ V);go_simp;refine hK _ _ (fun _=>?_) ?_
      ·exact⟨qzA (Below.refl _ _).drew (xdd z0 (by omega)),qzA (Below.refl _ _).drew (xdd z1 (by omega)),qzA (Below.refl _ _).drew (xdd z2 (by omega)),qzA (Below.refl _ _).drew (xdd z3 (by omega)),qzA (Below.refl _ _).drew (xdd z4 (by omega)),qzA (Below.refl _ _).drew (xdd z5 (by omega))⟩
      clear hK K'
      try simp only[Act.put,qzF,qzG,qzH]
      refine tk 11 (⟨some 9,.assign (.tmp 62),4,_,_,none⟩) (.bool false) rfl (⟨qzA (Below.refl _ _).drew (xdd z0 (by omega)),qzA (Below.refl _ _).drew (xdd z1 (by omega)),qzA (Below.refl _ _).drew (xdd z2 (by omega)),qzA (Below.refl _ _).drew (xdd z3 (by omega)),qzA (Below.refl _ _).drew (xdd z4 (by omega)),qzA (Below.refl _ _).drew (xdd z5 (by omega))⟩) (fun _ _ _ h=>h) rfl (by kernel_rfl) ?_ ?_
      ·intro w hSw;obtain⟨q0,q1,q2,q3,q4,q5⟩:=hSw;go_simp
      try simp only[Act.put,qzF,qzG,qzH]
      refine xaE (by kernel_rfl) ?_ _
      try simp only[Act.put,qzF,qzG,qzH]
      have HQ:=xcE (xor (U:=V) (m:=m) (a:=ak) (c:=ck) (b:=false) HST.out hbV hco);obtain⟨r0,r1,r2,r3,r4,rf⟩:=hZ _ (Below.refl _ V);go_wp2;refine bodyPost_ret (v:=.tuple #[MV m (.slice ak m.code.length ck),.bool false]) ?_ rfl HQ.out.drew
      simp[results,Tryz.results149,go_sem,r0,r1,r2,r3,r4]
  ·have hge:(sites.length:Int)<=(at':Int):=by omega
   have HZ:=xcE (HN.out W hbW (by unfold xaY;rw[if_neg (by rw[List.getD_eq_getElem?_getD,List.getElem?_eq_none (by omega)];simp)]))
   clear hrow;go_wp2;refine bodyPost_ret (v:=.tuple #[MV zM0 (.slice none 0 0),.bool false]) ?_ rfl HZ.out
   simp[results,Tryz.results149,go_sem,z0,z1,z2,z3,z4]
 ·have hd:(x.op == 14)=false:=by simpa using hop
  have hdn:(x.op != 14)=true:=by simpa using hop
  have HZ:=xcE (HN.out W hbW (by unfold xaY;rw[if_neg (by omega)]))
  clear hop;go_wp2;refine bodyPost_ret (v:=.tuple #[MV zM0 (.slice none 0 0),.bool false]) ?_ rfl HZ.out
  simp[results,Tryz.results149,go_sem,z0,z1,z2,z3,z4]
structure Sml (m:QM):Prop where
 args:0<=m.args/\m.args<=4
 temps:0<=m.temps/\m.temps<=6
 len:m.code.length<=60
 code:∀ x∈m.code,(x.op=2\/x.op=3\/x.op=11\/x.op=15\/x.op=16)->0<=x.a/\x.a<=1000
 jump:∀ x∈m.code,(x.op=15\/x.op=16)->0<=x.a/\x.a<m.code.length
 plain:∀ x∈m.code,1<=x.op/\x.op<=17/\x.b=0/\x.c=0/\(x.op≠14->xnV x.name=true)
theorem xnX {X:QW}(h:xau X=0){c n:Int}{m:QM}(hm:xaz X.cz c n=some m)(hp0:m.prim≠0):m.args=1/\m.temps=0/\m.code=[]:=by
 rcases xfI h hm with ⟨-,-⟩ | ⟨h0,-⟩
 ·obtain⟨hs,-,hk,-⟩:=xbX h;unfold xaz at hm
  cases hx:xa8 X.cz c with
  | none=>rw[hx] at hm;cases hm
  | some x=>
   rw[hx] at hm;simp only[Option.bind_some] at hm;obtain⟨k,rfl,hx'⟩:=xa5 hx
   split at hm
   ·have hr:=hk k x (xad hx') hx';unfold rkE at hr
    split at hr
    ·cases hr
    ·split at hr
     ·cases hr
     ·have hq:=xbH hr _ _ hm;unfold rmE at hq
      split at hq
      ·cases hq
      ·split at hq
       ·rename_i hp;unfold xmS at hp;rw[List.any_eq_true] at hp;obtain⟨p,hpm,hp⟩:=hp;simp only[Bool.and_eq_true,decide_eq_true_eq] at hp
        exact⟨hp.1.1.2,hp.1.2,List.eq_nil_of_length_eq_zero hp.2⟩
       ·exfalso;unfold xce at hq
        split at hq
        ·rename_i a;exact absurd hq a
        ·rename_i a;have hw:wmE X.cz.length k m=0:=Decidable.of_not_not a;unfold wmE at hw
         split at hw
         ·cases hw
         ·split at hw
          ·cases hw
          ·split at hw
           ·cases hw
           ·cases hw
   ·cases hm
 ·exact absurd h0 hp0
theorem xdn {X:QW}(h:xau X=0){c n:Int}{m:QM}(hm:xaz X.cz c n=some m):Sml m:=by
 by_cases hp0:m.prim=0
 ·rcases xfI h hm with ⟨h0,-⟩ | ⟨-,S,N,hw,hn,-⟩
  ·exact absurd hp0 h0
  ·unfold wmE at hw
   split at hw
   ·cases hw
   ·split at hw
    ·cases hw
    ·split at hw
     ·cases hw
     ·rename_i hat
      split at hw
      ·cases hw
      ·split at hw
       ·cases hw
       ·rename_i hlen
        simp[inR] at hat hlen
        have hl:m.code.length<=60:=by omega
        refine⟨by omega,by omega,hl,fun x hx ho=>?_,fun x hx ho=>?_,fun x hx=>?_⟩
        ·have hx':=hn x hx;obtain⟨n1,n2,n3,n4,n5,n6,n7⟩:=xgq hx'
         rcases ho with ho | ho | ho | ho | ho
         ·have:=n3 ho;omega
         ·have:=n4 (Or.inl ho);omega
         ·have:=n4 (Or.inr ho);omega
         ·unfold xfq at hx'
          split at hx'
          ·cases hx'
          ·split at hx'
           ·cases hx'
           ·rename_i hra;simp[raE,ho,inR] at hra;omega
         ·unfold xfq at hx'
          split at hx'
          ·cases hx'
          ·split at hx'
           ·cases hx'
           ·rename_i hra;simp[raE,ho,inR] at hra;omega
        ·have hx':=hn x hx;unfold xfq at hx'
         split at hx'
         ·cases hx'
         ·split at hx'
          ·cases hx'
          ·rename_i hra
           rcases ho with ho | ho<;>(simp[raE,ho,inR] at hra;omega)
        ·have hx':=hn x hx;obtain⟨n1,n2,n3,n4,n5,n6,n7⟩:=xgq hx';refine⟨n1,n2,n6,n7,fun h14=>?_⟩
         unfold xfq at hx'
         split at hx'
         ·cases hx'
         ·split at hx'
          ·cases hx'
          ·split at hx'
           ·cases hx'
           ·rename_i hr
            have hrn:rnB x=true:=by
             cases hb:rnB x with
             | true=>rfl
             | false=>exact absurd (Or.inl hb) hr
            unfold rnB at hrn;rw[if_neg h14] at hrn
            exact hrn
 ·obtain⟨h1,h2,h3⟩:=xnX h hm hp0;refine⟨by omega,by omega,by rw[h3];simp,fun x hx=>(by rw[h3] at hx;cases hx),fun x hx=>(by rw[h3] at hx;cases hx),fun x hx=>(by rw[h3] at hx;cases hx)⟩
theorem xeS {xs:List QC}{k:Int}{name:ByteArray}{m:QM}(h:xes xs k name=some m):xaz xs (xak xs k name).1 (xak xs k name).2=some m:=by
 unfold xes at h
 split at h
 ·cases h
 ·rename_i h2;unfold xaz xa8
  rcases xfs xs k name with ⟨-,h3⟩ | ⟨q,x,t,y,he,hx,hm⟩
  ·exact absurd h3 h2
  ·rw[he] at h ⊢
   simp[hx,hm] at h ⊢
   exact h
theorem xbA {X:QW}(h:xau X=0){sites:List Int}{at':Nat}{x:QI}{m:QM}(hs:xaY X.cz sites at' x=some m):Sml m/\m.args=x.a/\xdw m=true/\x.op=14:=by
 unfold xaY at hs
 split at hs
 ·rename_i ho
  split at hs
  ·cases hs
  ·rename_i m' hm
   split at hs
   ·rename_i hc
    cases hs
    exact⟨xdn h (xeS hm),hc.1,hc.2,ho.1⟩
   ·cases hs
 ·cases hs
theorem xcv {X:QW}(h:xau X=0){sites:List Int}{m:QM}(hm:Sml m):∀ {k:Nat},k<=m.code.length->(xah X.cz sites m k).code.length+(m.code.length-k)<=240/\0<=(xah X.cz sites m k).temps/\(xah X.cz sites m k).temps<=40/\(xah X.cz sites m k).pieces<=k
 | 0,_=>by have:=hm.len;have:=hm.temps;exact⟨by simp[xah];omega,by simp[xah];omega,by simp[xah];omega,qzC _⟩
 | k+1,hk=>by
  obtain⟨i1,i2,i3,i4⟩:=xcv h hm (sites:=sites) (k:=k) (by omega)
  rw[xbm (List.getElem?_eq_getElem (by omega))]
  generalize xah X.cz sites m k=s at *;generalize m.code[k]=x;unfold xdP xee
  cases hst:xaY X.cz sites k x with
  | none=>simp only[List.length_append,List.length_cons,List.length_nil];omega
  | some leaf=>
   obtain⟨hsm,-⟩:=xbA h hst
   by_cases hr:xgP s.code.length s.temps leaf ((m.code.length:Int)-k)=true
   ·simp only[hr,if_true,List.length_append,xbK];unfold xgP at hr;have hr':=of_decide_eq_true hr;have:=hsm.args;have:=hsm.temps
    omega
   ·simp only[hr,if_false,List.length_append,List.length_cons,List.length_nil]
    simp
    omega
structure MtL (Z:World)(bm:Nat)(m:QM)(kv:Value)(c ep tm:Int)(code:List QI)(bl:List Int)(a:Option Addr)(cap:Nat)(wr:World):Prop where
 os:wr.os=Z.os
 tape:wr.tape=Z.tape
 output:wr.output=Z.output
 sz:bm+3<=wr.heap.size
 fix:∀ b,b<bm->wr.heap[b]?=Z.heap[b]?
 mb:wr.heap[bm]?=some (.cells #[.string m.name,.int .i64 m.args,.int .i64 m.temps,.int .i64 m.prim,kv] 51 (0,0))
 fb:wr.heap[bm+1]?=some (.cells #[.int .i64 c,.string m.name,.int .i64 ep,.int .i64 tm,.slice a code.length cap] 187 (0,0))
 gb:wr.heap[bm+2]?=some (.cells (bl.map (Value.int .i64)).toArray 3 (0,0))
 own:OwnI wr (bm+3) a cap code
section
variable {Z:World} {bm:Nat} {m:QM} {kv:Value} {c ep tm:Int} {code:List QI} {bl:List Int} {a:Option Addr} {cap:Nat} {wr w':World}
theorem MtL.later (h:MtL Z bm m kv c ep tm code bl a cap wr)(hb:Below wr.heap.size wr w'):MtL Z bm m kv c ep tm code bl a cap w':=
 ⟨hb.os.trans h.os,hb.tape.trans h.tape,hb.output.trans h.output,qzD h.sz hb.size,fun b hb'=>(hb.block b (by have:=h.sz;omega)).trans (h.fix b hb'),xaa h.mb hb,xaa h.fb hb,xaa h.gb hb,h.own.keep fun g hg=>hb.block g (h.own.lt g hg).2⟩
theorem MtL.setG (h:MtL Z bm m kv c ep tm code bl a cap wr)(j:Nat)(t:Int):MtL Z bm m kv c ep tm code (bl.set j t) a cap (wr.setCell ⟨bm+2,j,none⟩ (.int .i64 t)):=by
 have hd:Below 0 wr (wr.setCell ⟨bm+2,j,none⟩ (.int .i64 t)):=(Below.refl 0 wr).setCell (Nat.zero_le _) _;refine⟨hd.os.trans h.os,hd.tape.trans h.tape,hd.output.trans h.output,by rw[xaX];exact h.sz,fun b hb=>by rw[xac (by omega)];exact h.fix b hb,by rw[xac (by omega)];exact h.mb,by rw[xac (by omega)];exact h.fb,?_,h.own.keep fun g hg=>xac (by have:=(h.own.lt g hg).1;omega) _⟩
 rw[xae h.gb,List.map_set]
 simp
theorem MtL.setT (h:MtL Z bm m kv c ep tm code bl a cap wr)(t:Int):MtL Z bm m kv c ep t code bl a cap (wr.setCell ⟨bm+1,3,none⟩ (.int .i64 t)):=by
 have hd:Below 0 wr (wr.setCell ⟨bm+1,3,none⟩ (.int .i64 t)):=(Below.refl 0 wr).setCell (Nat.zero_le _) _;refine⟨hd.os.trans h.os,hd.tape.trans h.tape,hd.output.trans h.output,by rw[xaX];exact h.sz,fun b hb=>by rw[xac (by omega)];exact h.fix b hb,by rw[xac (by omega)];exact h.mb,?_,by rw[xac (by omega)];exact h.gb,h.own.keep fun g hg=>xac (by have:=(h.own.lt g hg).1;omega) _⟩
 rw[xae h.fb];rfl
theorem MtL.setC {U:World}{a':Option Addr}{cap':Nat}{ys:List QI}(h:MtL Z bm m kv c ep tm code bl a cap U)(r1:OwnI w' (bm+3) a' cap' (code++ys))(r3:Below (bm+3) U w'):MtL Z bm m kv c ep tm (code++ys) bl a' cap' (w'.setCell ⟨bm+1,4,none⟩ (.slice a' (code++ys).length cap')):=by
 have hd:Below 0 w' (w'.setCell ⟨bm+1,4,none⟩ (.slice a' (code++ys).length cap')):=(Below.refl 0 w').setCell (Nat.zero_le _) _;have hs:=h.sz;refine⟨hd.os.trans (r3.os.trans h.os),hd.tape.trans (r3.tape.trans h.tape),hd.output.trans (r3.output.trans h.output),by rw[xaX];exact qzD hs r3.size,fun b hb=>by rw[xac (by omega),r3.block b (by omega)];exact h.fix b hb,by rw[xac (by omega),r3.block _ (by omega)];exact h.mb,?_,by rw[xac (by omega),r3.block _ (by omega)];exact h.gb,r1.keep fun g hg=>xac (by have:=(r1.lt g hg).1;omega) _⟩
 rw[xae (show w'.heap[bm+1]?=_ by rw[r3.block _ (by omega)];exact h.fb)];rfl
theorem MtL.below {w:World}(h:MtL Z bm m kv c ep tm code bl a cap wr)(hb:Below w.heap.size w Z)(hl:w.heap.size<=bm):Below w.heap.size w wr:=⟨h.os.trans hb.os,h.tape.trans hb.tape,h.output.trans hb.output,by have:=h.sz;omega,fun b hb'=>(h.fix b (by omega)).trans (hb.block b hb')⟩
theorem MtL.f0 (h:MtL Z bm m kv c ep tm code bl a cap wr):wr.cell? ⟨bm+1,0,none⟩=some (.int .i64 c):=by rw[qzB h.fb];rfl
theorem MtL.f1 (h:MtL Z bm m kv c ep tm code bl a cap wr):wr.cell? ⟨bm+1,1,none⟩=some (.string m.name):=by rw[qzB h.fb];rfl
theorem MtL.f2 (h:MtL Z bm m kv c ep tm code bl a cap wr):wr.cell? ⟨bm+1,2,none⟩=some (.int .i64 ep):=by rw[qzB h.fb];rfl
theorem MtL.f3 (h:MtL Z bm m kv c ep tm code bl a cap wr):wr.cell? ⟨bm+1,3,none⟩=some (.int .i64 tm):=by rw[qzB h.fb];rfl
theorem MtL.f4 (h:MtL Z bm m kv c ep tm code bl a cap wr):wr.cell? ⟨bm+1,4,none⟩=some (.slice a code.length cap):=by rw[qzB h.fb];rfl
theorem MtL.m4 (h:MtL Z bm m kv c ep tm code bl a cap wr):wr.cell? ⟨bm,4,none⟩=some kv:=by rw[qzB h.mb];rfl
theorem MtL.g (h:MtL Z bm m kv c ep tm code bl a cap wr){j:Nat}{t:Int}(hj:bl[j]?=some t):wr.cell? ⟨bm+2,j,none⟩=some (.int .i64 t):=by rw[qzB h.gb];simp[hj]
theorem MtL.ff (h:MtL Z bm m kv c ep tm code bl a cap wr)(o:Nat):wr.frozen? ⟨bm+1,o,none⟩=false:=xb5 h.fb o
theorem MtL.gf (h:MtL Z bm m kv c ep tm code bl a cap wr)(o:Nat):wr.frozen? ⟨bm+2,o,none⟩=false:=xb5 h.gb o
theorem MtL.old (h:MtL Z bm m kv c ep tm code bl a cap wr){b o:Nat}{v:Value}(hb:b<bm)(hv:Z.cell? ⟨b,o,none⟩=some v):wr.cell? ⟨b,o,none⟩=some v:=by
 unfold World.cell? at hv ⊢;rw[h.fix b hb];exact hv
theorem MtL.capOk (h:MtL Z bm m kv c ep tm code bl a cap wr):code.length<=cap/\cap<=9223372036854775807:=by
 obtain⟨a',c',e,h1,h2⟩:=h.own.form
 cases e;unfold maxLen at h2;exact⟨h1,by omega⟩
end
theorem xhK {s:List Int}{n j:Nat}{t:Int}(hs:s.length=j)(hj:j<n):(s++List.replicate (n-j) 0).set j t=s++[t]++List.replicate (n-(j+1)) 0:=by
 rw[show n-j=(n-(j+1))+1 by omega,List.replicate_succ,List.set_append]
 simp[hs]
def xki (w:World)(r:Fst × Bool)(e:Ending)(w':World):Prop:=
 ∃ a cap,e=.returned (.tuple #[FsV r.1 (.slice a r.1.code.length cap),.bool r.2])/\xaG (fun b=>w.heap.size<=b/\b<w'.heap.size) w' (.slice a r.1.code.length cap) r.1.code/\Below w.heap.size w w'
end Go.Proofs.YtbafokihegegiaaGreatDoor
