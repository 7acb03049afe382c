/- A part. -/
import Derived.Test.YtapbeiccodnniaaGreatM7
namespace Go.Proofs.YtapbeiccodnniaaGreat
open Go.ChangeShapes Go.WideShapes Go.ChangeAt Go.RowKit
set_option linter.unusedSimpArgs false
set_option linter.unusedVariables false
set_option maxHeartbeats 8000000
set_option maxRecDepth 8000
def xa2 (xs:List QE)(X:QW)(s:QS)(c:Int)(name:ByteArray):List QE × (Int × Int) × Bool:=
 if xcN X.cz.length (xft xs s X.ez c) then (xs,xaw X.cz (xft xs s X.ez c) name,true)
 else if (xaw X.cz c name).1<0 then (xs,xaw X.cz c name,false)
 else (xcX xs s X.ez ⟨c,(xaw X.cz c name).1⟩,xaw X.cz c name,false)
structure FdR (w:World)(P:Nat->Prop)(v cv hv:Value)(xs:List QE)(X:QW)(s:QS)(w':World):Prop where
 bel:Below w.heap.size w w'
 cl:xbk P w' v xs
 hc:xai P w' cv X.cz
 hh:xaC P w' hv X.heap
 w0:w'.cell? ⟨w.heap.size,0,none⟩=some cv
 w1:w'.cell? ⟨w.heap.size,1,none⟩=some hv
 w2:w'.cell? ⟨w.heap.size,2,none⟩=some (.int .i64 X.ez)
 st:SiteAt w' (w.heap.size+1) s
theorem FdR.later {w:World}{P:Nat->Prop}{v cv hv:Value}{xs:List QE}{X:QW}{s:QS}{w' w'':World}(h:FdR w P v cv hv xs X s w')(hb:Below w'.heap.size w' w''):FdR w P v cv hv xs X s w'':=
 ⟨xah h.bel hb,h.cl.later xbw hb,h.hc.later xaz hb,h.hh.later xaD hb,qzA hb h.w0,qzA hb h.w1,qzA hb h.w2,h.st.later hb⟩
theorem xjY {P:Nat->Prop}(xs:List QE)(X:QW)(s:QS)(c:Int)(name:ByteArray)(v cv hv:Value)(w:World)(hx:xbk P w v xs)(hC:xai P w cv X.cz)(hH:xaC P w hv X.heap)(hby:(xs.length+1)*72<=190000000000000)(hls:∀ x∈xs,x.lz.length*16<=281474976710656) :
  Calls Tryz.prog 46 #[v,WV cv hv X.ez,SV s,.int .i64 c,.string name] w fun e w'=>∃ a k,e=.returned (.tuple #[.slice a (xa2 xs X s c name).1.length k,.int .i64 (xa2 xs X s c name).2.1.1,.int .i64 (xa2 xs X s c name).2.1.2,.bool (xa2 xs X s c name).2.2])/\xbk (fun b=>w.heap.size<=b) w' (.slice a (xa2 xs X s c name).1.length k) (xa2 xs X s c name).1/\Below w.heap.size w w':=by
 have hml:xs.length<=maxLen:=by unfold maxLen;omega
 have hR0:FdR w P v cv hv xs X s ((w.alloc (.cells #[cv,hv,.int .i64 X.ez] 25)).alloc (.cells #[.int .i64 s.cls,.string s.name,.int .i64 s.at'] 67)):=by
  have hb:=xca w (.cells #[cv,hv,.int .i64 X.ez] 25) (.cells #[.int .i64 s.cls,.string s.name,.int .i64 s.at'] 67);refine⟨hb,hx.later xbw hb,hC.later xaz hb,hH.later xaD hb,qzA (xaj _ _) (by rw[xaa _ _ _ _ rfl];rfl),qzA (xaj _ _) (by rw[xaa _ _ _ _ rfl];rfl),qzA (xaj _ _) (by rw[xaa _ _ _ _ rfl];rfl),?_⟩
  have:=xeS (w.alloc (.cells #[cv,hv,.int .i64 X.ez] 25)) s 67
  simpa using this
 obtain⟨ad,cap,rfl,-,-,-,-⟩:=id hx;obtain⟨ac,cc,rfl,-,-,-,-⟩:=id hC;obtain⟨ah,ch,rfl,-,-,-,-⟩:=id hH;clear hx hC hH;go_enter Tryz.func46,Tryz.ntmps46
 go_upto_region 1 with (fail)
 generalize ((w.alloc (.cells #[.slice ac X.cz.length cc,.slice ah X.heap.length ch,.int .i64 X.ez] 25)).alloc (.cells #[.int .i64 s.cls,.string s.name,.int .i64 s.at'] 67))=W0 at *;obtain⟨-,-,-,-,b0,b1,b2,s0,s1,s2⟩:=id hR0;go_wp2_with fail;refine (xm5 xs _ s X.ez c _ hR0.cl).mono ?_;rintro e w1 ⟨rfl,hb1⟩;have hR1:=hR0.later hb1;clear hR0 hb1 b0 b1 b2 s0 s1 s2;obtain⟨k,hk⟩:∃ k,k=xft xs s X.ez c:=⟨_,rfl⟩;rw[← hk];obtain⟨-,-,-,-,b0,b1,b2,s0,s1,s2⟩:=id hR1
 by_cases h0:0<=k
 ·have hd0:decide (0<=k)=true:=by simpa using h0
  by_cases h1:k<X.cz.length
  ·have hd1:decide (k<(X.cz.length:Int))=true:=by simpa using h1
   have HE:Hid (xa2 xs X s c name=(xs,xaw X.cz k name,true)):=by show _=_;unfold xa2;rw[← hk,if_pos (by simp[xcN,h0,h1])]
   clear hk;go_wp2_with fail;refine (xeI X k name _ _ _ hR1.hc hR1.hh).mono ?_;rintro e w2 ⟨rfl,hb2⟩;have hR2:=hR1.later hb2;clear hR1 hb2 b0 b1 b2 s0 s1 s2;go_wp2_with fail;refine (xdi xs _ _ hR2.cl (by omega) hls).mono ?_
   rintro e w3 ⟨g,rfl,hown,hg,hb3⟩;go_wp2;rw[HE.out];refine qzK (v:=.tuple #[.slice (some ⟨g,0,none⟩) xs.length xs.length,.int .i64 (xaw X.cz k name).1,.int .i64 (xaw X.cz k name).2,.bool true]) ?_ rfl ⟨_,_,rfl,?_,xah hR2.bel hb3⟩
   ·simp[results,Tryz.results46,go_sem]
   ·exact (xcs (hown.row0 xct hml)).mono xbw fun b h=>by have:=hR2.bel.size;omega
  ·have hd1:decide (k<(X.cz.length:Int))=false:=by simpa using h1
   have HE0:Hid (xa2 xs X s c name=if (xaw X.cz c name).1<0 then (xs,xaw X.cz c name,false) else (xcX xs s X.ez ⟨c,(xaw X.cz c name).1⟩,xaw X.cz c name,false)):=by show _=_;unfold xa2;rw[← hk,if_neg (by simp[xcN];omega)]
   clear hk;go_wp2_with fail;refine (xeI X c name _ _ _ hR1.hc hR1.hh).mono ?_;rintro e w2 ⟨rfl,hb2⟩;have hR2:=hR1.later hb2;clear hR1 hb2 b0 b1 b2 s0 s1 s2;obtain⟨-,-,-,-,b0,b1,b2,s0,s1,s2⟩:=id hR2;generalize xaw X.cz c name=r at *;obtain⟨r1,r2⟩:=r;simp only at HE0 ⊢
   by_cases hr:r1<0
   ·have HE:Hid (xa2 xs X s c name=(xs,(r1,r2),false)):=by show _=_;rw[HE0.out,if_pos hr]
    go_wp2_with fail;refine (xdi xs _ _ hR2.cl (by omega) hls).mono ?_
    rintro e w3 ⟨g,rfl,hown,hg,hb3⟩;go_wp2;rw[HE.out];refine qzK (v:=.tuple #[.slice (some ⟨g,0,none⟩) xs.length xs.length,.int .i64 r1,.int .i64 r2,.bool false]) ?_ rfl ⟨_,_,rfl,?_,xah hR2.bel hb3⟩
    ·simp[results,Tryz.results46,go_sem]
    ·exact (xcs (hown.row0 xct hml)).mono xbw fun b h=>by have:=hR2.bel.size;omega
   ·have HE:Hid (xa2 xs X s c name=(xcX xs s X.ez ⟨c,r1⟩,(r1,r2),false)):=by show _=_;rw[HE0.out,if_neg hr]
    have hr':0<=r1:=by omega
    go_wp2_with fail;refine (xj0 xs _ s X.ez c r1 _ hR2.cl hby hls).mono ?_;rintro e w3 ⟨g,k3,rfl,hP3,hb3⟩;generalize xcX xs s X.ez ⟨c,r1⟩=ys at *;go_wp2;rw[HE.out];refine qzK (v:=.tuple #[.slice (some ⟨g,0,none⟩) ys.length k3,.int .i64 r1,.int .i64 r2,.bool false]) ?_ rfl ⟨_,_,rfl,?_,xah hR2.bel hb3⟩
    ·simp[results,Tryz.results46,go_sem]
    ·exact hP3.mono xbw fun b h=>by have:=hR2.bel.size;omega
 ·have hd0:decide (0<=k)=false:=by simpa using h0
  have HE0:Hid (xa2 xs X s c name=if (xaw X.cz c name).1<0 then (xs,xaw X.cz c name,false) else (xcX xs s X.ez ⟨c,(xaw X.cz c name).1⟩,xaw X.cz c name,false)):=by show _=_;unfold xa2;rw[← hk,if_neg (by simp[xcN];omega)]
  clear hk;go_wp2_with fail;refine (xeI X c name _ _ _ hR1.hc hR1.hh).mono ?_;rintro e w2 ⟨rfl,hb2⟩;have hR2:=hR1.later hb2;clear hR1 hb2 b0 b1 b2 s0 s1 s2;obtain⟨-,-,-,-,b0,b1,b2,s0,s1,s2⟩:=id hR2;generalize xaw X.cz c name=r at *;obtain⟨r1,r2⟩:=r;simp only at HE0 ⊢
  by_cases hr:r1<0
  ·have HE:Hid (xa2 xs X s c name=(xs,(r1,r2),false)):=by show _=_;rw[HE0.out,if_pos hr]
   go_wp2_with fail;refine (xdi xs _ _ hR2.cl (by omega) hls).mono ?_
   rintro e w3 ⟨g,rfl,hown,hg,hb3⟩;go_wp2;rw[HE.out];refine qzK (v:=.tuple #[.slice (some ⟨g,0,none⟩) xs.length xs.length,.int .i64 r1,.int .i64 r2,.bool false]) ?_ rfl ⟨_,_,rfl,?_,xah hR2.bel hb3⟩
   ·simp[results,Tryz.results46,go_sem]
   ·exact (xcs (hown.row0 xct hml)).mono xbw fun b h=>by have:=hR2.bel.size;omega
  ·have HE:Hid (xa2 xs X s c name=(xcX xs s X.ez ⟨c,r1⟩,(r1,r2),false)):=by show _=_;rw[HE0.out,if_neg hr]
   have hr':0<=r1:=by omega
   go_wp2_with fail;refine (xj0 xs _ s X.ez c r1 _ hR2.cl hby hls).mono ?_;rintro e w3 ⟨g,k3,rfl,hP3,hb3⟩;generalize xcX xs s X.ez ⟨c,r1⟩=ys at *;go_wp2;rw[HE.out];refine qzK (v:=.tuple #[.slice (some ⟨g,0,none⟩) ys.length k3,.int .i64 r1,.int .i64 r2,.bool false]) ?_ rfl ⟨_,_,rfl,?_,xah hR2.bel hb3⟩
   ·simp[results,Tryz.results46,go_sem]
   ·exact hP3.mono xbw fun b h=>by have:=hR2.bel.size;omega
theorem xed {xs:List QC}{name:ByteArray}:∀ {l:List Int},xcZ xs name l=(-1,-1)\/∃ k∈l,0<=xcu (xbD xs k) name/\xcZ xs name l=(k,xcu (xbD xs k) name)
 | []=>Or.inl rfl
 | k :: r=>by
  unfold xcZ
  split
  ·rename_i hk
   exact Or.inr ⟨k,by simp,hk,rfl⟩
  ·rcases xed (xs:=xs) (name:=name) (l:=r) with h | ⟨q,hq,h1,h2⟩
   ·exact Or.inl h
   ·exact Or.inr ⟨q,by simp[hq],h1,h2⟩
theorem xh2 (xs:List QC)(c:Int)(name:ByteArray)(h:0<=(xaw xs c name).1):xaw xs (xaw xs c name).1 name=xaw xs c name:=by
 rw[xeo c];rw[xeo c] at h
 rcases xed (xs:=xs) (name:=name) (l:=xde xs (xs.length+1) c) with he | ⟨k,hk,h1,he⟩
 ·rw[he] at h;simp at h
 ·rw[he];simp only;rw[xeo];obtain⟨i,hi,hik⟩:=List.mem_iff_getElem.1 hk;obtain⟨q,x,e,hx⟩:=xdS _ _ i _ (by rw[List.getElem?_eq_getElem hi])
  rw[hik] at e;have hc:xby xs k=some x:=by rw[e,xfp];exact hx
  unfold xde;rw[hc];simp only[xcZ];rw[if_pos h1]
theorem xdC (x:QE)(y z:QL)(h:z∈(xax x y).lz):z∈x.lz\/z=y:=by
 unfold xax at h
 split at h
 ·exact Or.inl h
 ·split at h
  ·simp at h
  ·rw[List.mem_append] at h
   rcases h with h | h
   ·exact Or.inl h
   ·simp at h;exact Or.inr h
theorem xi8:∀ (l:List QE) (s:QS) (ep:Int) (y:QL),(xcX l s ep y).length<=l.length+1
 | [],s,ep,y=>by simp[xcX]
 | x :: r,s,ep,y=>by
  unfold xcX
  split
  ·simp
  ·simpa using xi8 r s ep y
def TrueS (X:QW)(l:List QE):Prop:=∀ x∈l,x.ez=X.ez->∀ y∈x.lz,∀ nm,xcW X.cz x.site nm->xaw X.cz y.found nm=xaw X.cz y.cls nm
theorem xaZ (x:QE)(y:QL):(xax x y).site=x.site/\(xax x y).ez=x.ez:=by
 unfold xax
 split
 ·exact⟨rfl,rfl⟩
 ·split<;>exact⟨rfl,rfl⟩
theorem xcP {x:QE}{s:QS}{ep:Int}(hs:x.site=s):(xbS x s ep).site=s/\(xbS x s ep).ez=ep/\∀ u∈(xbS x s ep).lz,x.ez=ep/\u∈x.lz:=by
 unfold xbS
 split
 ·rename_i h;exact⟨hs,h,fun u hu=>⟨h,hu⟩⟩
 ·exact⟨rfl,rfl,fun u hu=>by simp at hu⟩
theorem xhN (s:QS)(ep:Int)(y:QL):∀ (l:List QE) (z:QE),z∈xcX l s ep y->z∈l\/(z.site=s/\z.ez=ep/\∀ u∈z.lz,u=y\/∃ x∈l,x.site=s/\x.ez=ep/\u∈x.lz)
 | [],z,h=>by
  simp[xcX] at h
  subst h;refine Or.inr ⟨(xaZ _ _).1,(xaZ _ _).2,fun u hu=>?_⟩
  rcases xdC _ _ _ hu with h | h
  ·simp at h
  ·exact Or.inl h
 | x :: r,z,h=>by
  unfold xcX at h
  split at h
  ·rename_i hs;rw[List.mem_cons] at h
   rcases h with rfl | h
   ·have hf:=xcP (ep:=ep) ((xcf _ _).1 hs);refine Or.inr ⟨(xaZ _ _).1.trans hf.1,(xaZ _ _).2.trans hf.2.1,fun u hu=>?_⟩
    rcases xdC _ _ _ hu with h | h
    ·exact Or.inr ⟨x,by simp,(xcf _ _).1 hs,hf.2.2 u h⟩
    ·exact Or.inl h
   ·exact Or.inl (by simp[h])
  ·rw[List.mem_cons] at h
   rcases h with rfl | h
   ·exact Or.inl (by simp)
   ·rcases xhN s ep y r z h with h | ⟨h1,h2,h3⟩
    ·exact Or.inl (by simp[h])
    ·refine Or.inr ⟨h1,h2,fun u hu=>?_⟩
     rcases h3 u hu with h | ⟨x',hx',h⟩
     ·exact Or.inl h
     ·exact Or.inr ⟨x',by simp[hx'],h⟩
theorem xlF {l:List QE}{s:QS}{ep c:Int}(h:0<=xft l s ep c):∃ x∈l,x.site=s/\x.ez=ep/\∃ y∈x.lz,y.cls=c/\y.found=xft l s ep c:=by
 unfold xft at h ⊢
 cases hf:l.find? fun x=>eqS x.site s with
 | none=>rw[hf] at h;simp at h
 | some x=>
  rw[hf] at h;simp only[Option.map_some,Option.getD_some] at h ⊢;have hx:=List.mem_of_find?_eq_some hf;have hs:x.site=s:=by have h':=List.find?_some hf;exact (xcf _ _).1 h'
  by_cases he:x.ez=ep
  ·rw[if_pos he] at h ⊢;unfold xen at h ⊢
   cases hy:x.lz.find? fun y=>y.cls == c with
   | none=>rw[hy] at h;simp at h
   | some y=>
    refine⟨x,hx,hs,he,y,List.mem_of_find?_eq_some hy,?_,by simp⟩
    have:=List.find?_some hy
    simpa using this
  ·rw[if_neg he] at h;simp at h
theorem TrueS.find {X:QW}(hX:xaJ X=0){l:List QE}(h:TrueS X l){s:QS}{name:ByteArray}(hn:xcW X.cz s name)(c:Int):(xa2 l X s c name).2.1=xaw X.cz c name/\TrueS X (xa2 l X s c name).1:=by
 unfold xa2
 split
 ·rename_i hh;have h0:0<=xft l s X.ez c:=by simp[xcN] at hh;omega
  obtain⟨x,hx,hs,he,y,hy,h1,h2⟩:=xlF h0;refine⟨?_,h⟩
  show xaw X.cz (xft l s X.ez c) name=_
  rw[← h2,← h1]
  exact h x hx he y hy name (by rw[hs];exact hn)
 ·split
  ·exact⟨rfl,h⟩
  ·rename_i hk;refine⟨rfl,fun z hz he u hu nm hnm=>?_⟩
   rcases xhN _ _ _ _ z hz with h' | ⟨h1,h2,h3⟩
   ·exact h z h' he u hu nm hnm
   ·rw[h1] at hnm
    rcases h3 u hu with rfl | ⟨x,hx,e1,e2,hu'⟩
    ·rw[xmz hX hnm hn]
     exact xh2 X.cz c name (by omega)
    ·exact h x hx e2 u hu' nm (by rw[e1];exact hnm)
structure CSt where
 cells:List QE
 ts:List QT
 hits:Int
 nots:Int
def xcb (X:QW)(st:CSt)(s:QS)(c:Int)(name:ByteArray):CSt × (Int × Int):=
 (⟨(xa2 st.cells X s c name).1,xc1 st.ts s c,if (xa2 st.cells X s c name).2.2 then st.hits+1 else st.hits,if (xa2 st.cells X s c name).2.2 then st.nots else st.nots+1⟩,(xa2 st.cells X s c name).2.1)
def xaL (X:QW)(fuel:Int):Env CSt:=⟨X.cz,fuel,xcb X,xfk⟩
abbrev Ask:=QS × Int × ByteArray
def xcQ (X:QW)(fuel:Int):Env (List Ask):=⟨X.cz,fuel,fun q s c nm=>(q++[(s,c,nm)],xaw X.cz c nm),xfk⟩
def xcB (X:QW)(st:CSt)(q:List Ask):CSt:=q.foldl (fun st a=>(xcb X st a.1 a.2.1 a.2.2).1) st
theorem xfr {cs:List QC}{c n:Int}{m:QM}(h:xaO cs c n=some m){k:Nat}{x:QI}(hk:m.code[k]?=some x)(h14:x.op=14):xcW cs ⟨c,m.name,k⟩ x.name:=⟨n,m,k,x,h,rfl,rfl,hk,h14,rfl⟩
theorem xlm {X:QW}(hX:xaJ X=0)(fuel:Int)(st0:CSt):ER (fun (q:List Ask) st=>st=xcB X st0 q/\TrueS X st.cells) (xcW X.cz) (xcQ X fuel) (xaL X fuel) where
 cz:=rfl
 fuel:=rfl
 quick:=rfl
 look:=fun q st s c name h hs=>by
  obtain⟨h1,h2⟩:=TrueS.find hX h.2 hs c;refine⟨h1,?_,h2⟩
  show (xcb X st s c name).1=xcB X st0 (q++[(s,c,name)])
  unfold xcB;rw[List.foldl_append,h.1]
  rfl
 plain:=fun c n m h k x hk h14=>xfr h hk h14
 fast:=fun c n m q h hq=>by cases hq
theorem xou (X:QW)(fuel:Int):ER (fun (_:Unit) (_:List Ask)=>True) (xcW X.cz) (xcJ X fuel) (xcQ X fuel) where
 cz:=rfl
 fuel:=rfl
 quick:=rfl
 look:=fun _ _ _ _ _ _ _=>⟨rfl,trivial⟩
 plain:=fun c n m h k x hk h14=>xfr h hk h14
 fast:=fun c n m q h hq=>by cases hq
def nfB (X:QW)(a:Ask):Bool:=decide ((xaw X.cz a.2.1 a.2.2).1<0)
theorem xnm (X:QW)(fuel:Int):Cnt (xcQ X fuel) List.length (fun q=>q.countP (nfB X)) where
 a:=fun st s c nm=>by simp[xcQ]
 b:=fun st s c nm=>by
  simp only[xcQ,List.countP_append,List.countP_cons,List.countP_nil]
  by_cases h:(xaw X.cz c nm).1<0
  ·refine Or.inr ⟨by simp[nfB,h],?_⟩
   unfold xaO xby;rw[if_neg (by omega)]
   rfl
  ·exact Or.inl (by simp[nfB,h])
structure CRan (X:QW)(st0:CSt)(q:List Ask)(r:Mc CSt × QV × Int)(p:Mc Unit × QV × Int):Prop where
 heap:r.1.heap=p.1.heap
 sz_:r.1.sz_=p.1.sz_
 res:r.2=p.2
 st:r.1.st=xcB X st0 q
 tru:TrueS X r.1.st.cells
 few:(q.length:Int)<=p.1.sz_+1
 good:r.2.2≠10->q.countP (nfB X)=0
 bad:q.countP (nfB X)<=1
theorem xf4 {X:QW}(hX:xaJ X=0)(fuel:Int)(d:Nat)(c n:Int)(s:QV)(a:List QV)(st1:CSt)(h1:TrueS X st1.cells):CRan X st1 (xa1 (xcQ X fuel) d ⟨X.heap,0,0,[]⟩ c n s a).1.st (xa1 (xaL X fuel) d ⟨X.heap,0,0,st1⟩ c n s a) (xa1 (xcJ X fuel) d ⟨X.heap,0,0,()⟩ c n s a):=by
 obtain⟨⟨a1,a2,a3,-⟩,a4⟩:=xfi (xou X fuel) d ⟨X.heap,0,0,()⟩ ⟨X.heap,0,0,[]⟩ c n s a ⟨rfl,rfl,rfl,trivial⟩;obtain⟨⟨b1,b2,b3,b4⟩,b5⟩:=xfi (xlm hX fuel st1) d ⟨X.heap,0,0,[]⟩ ⟨X.heap,0,0,st1⟩ c n s a ⟨rfl,rfl,rfl,rfl,h1⟩;have hi:=(xjW (xnm X fuel) d ⟨X.heap,0,0,[]⟩ c n s a).1;generalize xa1 (xcQ X fuel) d ⟨X.heap,0,0,[]⟩ c n s a=l at *;refine⟨b1.trans a1,b2.trans a2,b5.trans a4,b4.1,b4.2,?_,?_,?_⟩
 ·rw[← a2]
  by_cases h:l.2.2=0
  ·have:=(hi.good h).1;simp at this;omega
  ·have:=(hi.bad h).1;simp at this;omega
 ·rw[b5];intro h10
  by_cases h:l.2.2=0
  ·simpa using (hi.good h).2
  ·rcases (hi.bad h).2 with h' | ⟨h',-⟩
   ·simpa using h'
   ·exact absurd h' h10
 ·by_cases h:l.2.2=0
  ·have:=(hi.good h).2;simp only[List.countP_nil] at this;omega
  ·rcases (hi.bad h).2 with h' | ⟨-,h'⟩
   ·simp only[List.countP_nil] at h';omega
   ·simp only[List.countP_nil] at h';omega
theorem xjd {X:QW}(hX:xaJ X=0)(fuel:Int){st0:CSt}(h0:TrueS X st0.cells)(d:Nat)(c n:Int)(s:QV)(a:List QV):∃ q,(∀ st1,TrueS X st1.cells->CRan X st1 q (xa1 (xaL X fuel) d ⟨X.heap,0,0,st1⟩ c n s a) (xa1 (xcJ X fuel) d ⟨X.heap,0,0,()⟩ c n s a)):=by
 exact⟨_,fun st1 h1=>xf4 hX fuel d c n s a st1 h1⟩
def xd0 (l:List QE)(s:QS):Option QE:=l.find? fun x=>eqS x.site s
theorem xeG (s:QS):eqS s s=true:=(xcf s s).2 rfl
theorem xfs (s:QS)(ep:Int)(y:QL):∀ l:List QE,xd0 (xcX l s ep y) s=some (xax (match xd0 l s with | none=>⟨s,ep,false,[]⟩ | some x=>xbS x s ep) y)
 | []=>by simp[xcX,xd0,(xaZ _ _).1,xeG]
 | x :: r=>by
  unfold xcX xd0
  by_cases h:eqS x.site s=true
  ·have hf:=xcP (ep:=ep) ((xcf _ _).1 h);rw[if_pos h,List.find?_cons_of_pos (by rw[(xaZ _ _).1,hf.1];exact xeG s),List.find?_cons_of_pos (p:=fun x:QE=>eqS x.site s) h]
  ·rw[if_neg h,List.find?_cons_of_neg (by simpa using h),List.find?_cons_of_neg (by simpa using h)]
   exact xfs s ep y r
theorem xfb (s s':QS)(ep:Int)(y:QL)(hs:s'≠s):∀ l:List QE,xd0 (xcX l s ep y) s'=xd0 l s'
 | []=>by
  have:eqS (xax ⟨s,ep,false,[]⟩ y).site s'=false:=by rw[(xaZ _ _).1];exact Bool.eq_false_iff.2 fun h=>hs ((xcf _ _).1 h).symm
  simp[xcX,xd0,this]
 | x :: r=>by
  unfold xcX xd0
  by_cases h:eqS x.site s=true
  ·have hxs:=(xcf _ _).1 h;have hf:=xcP (ep:=ep) hxs;have h1:eqS (xax (xbS x s ep) y).site s'=false:=by rw[(xaZ _ _).1,hf.1];exact Bool.eq_false_iff.2 fun h=>hs ((xcf _ _).1 h).symm
   have h2:eqS x.site s'=false:=by rw[hxs];exact Bool.eq_false_iff.2 fun h=>hs ((xcf _ _).1 h).symm
   rw[if_pos h,List.find?_cons_of_neg (by simpa using h1),List.find?_cons_of_neg (by simpa using h2)]
  ·rw[if_neg h]
   by_cases h':eqS x.site s'=true
   ·rw[List.find?_cons_of_pos (p:=fun x:QE=>eqS x.site s') h',List.find?_cons_of_pos (p:=fun x:QE=>eqS x.site s') h']
   ·rw[List.find?_cons_of_neg (by simpa using h'),List.find?_cons_of_neg (by simpa using h')]
    exact xfb s s' ep y hs r
def KM (X:QW)(l:List QE)(s:QS)(c:Int):Prop:=∃ x,xd0 l s=some x/\x.ez=X.ez/\(x.many=true\/xcN X.cz.length (xen x.lz c)=true)
def Rng (X:QW)(l:List QE):Prop:=∀ x∈l,∀ y∈x.lz,xcN X.cz.length y.found=true
theorem xeN {ls:List QL}{c:Int}{y:QL}(h:(ls.find? fun y=>y.cls == c)=some y):xen ls c=y.found:=by unfold xen;rw[h];rfl
theorem xmg {X:QW}{ls:List QL}{c:Int}(h:xcN X.cz.length (xen ls c)=true):∃ y,(ls.find? fun y=>y.cls == c)=some y:=by
 cases hf:ls.find? fun y=>y.cls == c with
 | some y=>exact⟨y,rfl⟩
 | none=>unfold xen at h;rw[hf] at h;simp[xcN] at h
theorem xj2 {ls:List QL}{c:Int}(h:0<=xbt (fun z:QL=>z.cls == c) ls):∃ y,(ls.find? fun y=>y.cls == c)=some y:=by
 cases hf:ls.find? fun y=>y.cls == c with
 | some y=>exact⟨y,rfl⟩
 | none=>
  rw[List.find?_eq_none] at hf;rw[xbM fun i y hy=>by simpa using hf y (List.mem_of_getElem? hy)] at h
  omega
theorem KM.with {X:QW}{x:QE}{c:Int}(y:QL)(h:x.many=true\/xcN X.cz.length (xen x.lz c)=true):(xax x y).many=true\/xcN X.cz.length (xen (xax x y).lz c)=true:=by
 unfold xax
 split
 ·exact h
 ·split
  ·exact Or.inl rfl
  ·rcases h with h | h
   ·exact Or.inl h
   ·obtain⟨z,hz⟩:=xmg h;refine Or.inr ?_;have:((x.lz++[y]).find? fun y=>y.cls == c)=some z:=by rw[List.find?_append,hz];rfl
    rw[xeN this,← xeN hz]
    exact h
theorem KM.put {X:QW}{l:List QE}{s:QS}{c:Int}(h:KM X l s c)(s':QS)(y:QL):KM X (xcX l s' X.ez y) s c:=by
 obtain⟨x,h1,h2,h3⟩:=h
 by_cases hs:s=s'
 ·subst hs;refine⟨_,xfs _ _ _ _,?_,?_⟩
  ·rw[(xaZ _ _).2,h1];simp only;unfold xbS;rw[if_pos h2];exact h2
  ·rw[h1];simp only;unfold xbS;rw[if_pos h2];exact KM.with y h3
 ·exact⟨x,by rw[xfb _ _ _ _ hs];exact h1,h2,h3⟩
theorem xj3 {X:QW}{l:List QE}{s:QS}{c:Int}(h:xcN X.cz.length (xft l s X.ez c)=true):KM X l s c:=by
 unfold xft at h
 cases hf:l.find? fun x=>eqS x.site s with
 | none=>rw[hf] at h;simp[xcN] at h
 | some x=>
  rw[hf] at h;simp only[Option.map_some,Option.getD_some] at h
  by_cases he:x.ez=X.ez
  ·rw[if_pos he] at h
   exact⟨x,hf,he,Or.inr h⟩
  ·rw[if_neg he] at h;simp[xcN] at h
theorem KM.get {X:QW}{l:List QE}{s:QS}{c:Int}(h:KM X l s c)(hm:∀ x∈l,x.many=false):xcN X.cz.length (xft l s X.ez c)=true:=by
 obtain⟨x,h1,h2,h3⟩:=h;have hx:=List.mem_of_find?_eq_some h1;rw[hm x hx] at h3;unfold xft;unfold xd0 at h1;rw[h1];simp only[Option.map_some,Option.getD_some];rw[if_pos h2]
 rcases h3 with h | h
 ·cases h
 ·exact h
theorem xoR {X:QW}{l:List QE}(hr:Rng X l)(s:QS)(y:QL)(hy:xcN X.cz.length y.found=true):KM X (xcX l s X.ez y) s y.cls:=by
 refine⟨_,xfs _ _ _ _,?_,?_⟩
 ·rw[(xaZ _ _).2]
  cases hc:xd0 l s with
  | none=>rfl
  | some x=>
   have:=(xcf _ _).1 (show eqS x.site s=true from by have h':=List.find?_some hc;exact h')
   exact (xcP (ep:=X.ez) this).2.1
 ·have hz:∀ z∈(match xd0 l s with | none=>(⟨s,X.ez,false,[]⟩:QE) | some x=>xbS x s X.ez).lz,xcN X.cz.length z.found=true:=by
   cases hc:xd0 l s with
   | none=>intro z hz;simp at hz
   | some x=>
    intro z hz;have:=(xcf _ _).1 (show eqS x.site s=true from by have h':=List.find?_some hc;exact h')
    exact hr x (List.mem_of_find?_eq_some hc) z ((xcP (ep:=X.ez) this).2.2 z hz).2
  generalize (match xd0 l s with | none=>(⟨s,X.ez,false,[]⟩:QE) | some x=>xbS x s X.ez)=x at hz ⊢
  unfold xax
  split
  ·rename_i h
   rcases h with h | h
   ·exact Or.inl h
   ·obtain⟨z,hf⟩:=xj2 h;refine Or.inr ?_;rw[xeN hf]
    exact hz z (List.mem_of_find?_eq_some hf)
  ·split
   ·exact Or.inl rfl
   ·rename_i h h';refine Or.inr ?_
    have hn:(x.lz.find? fun z=>z.cls == y.cls)=none:=by
     rw[List.find?_eq_none];intro z hz';intro hzc
     apply h
     refine Or.inr ?_
     cases hi:x.lz.findIdx? fun z=>z.cls == y.cls with
     | some j=>unfold xbt;rw[hi];simp
     | none=>rw[List.findIdx?_eq_none_iff] at hi;have:=hi z hz';rw[this] at hzc;cases hzc
    have:((x.lz++[y]).find? fun z=>z.cls == y.cls)=some y:=by rw[List.find?_append,hn];simp
    rw[xeN this]
    exact hy
theorem Rng.put {X:QW}{l:List QE}(h:Rng X l)(s:QS)(y:QL)(hy:xcN X.cz.length y.found=true):Rng X (xcX l s X.ez y):=fun z hz u hu=>by
 rcases xhN _ _ _ _ z hz with h' | ⟨-,-,h3⟩
 ·exact h z h' u hu
 ·rcases h3 u hu with rfl | ⟨x,hx,-,-,hu'⟩
  ·exact hy
  ·exact h x hx u hu'
theorem xmY (xs:List QC)(c:Int)(nm:ByteArray)(h:¬ (xaw xs c nm).1<0):xcN xs.length (xaw xs c nm).1=true:=by
 rw[xeo c] at h ⊢
 rcases xed (xs:=xs) (name:=nm) (l:=xde xs (xs.length+1) c) with he | ⟨k,hk,h1,he⟩
 ·rw[he] at h;simp at h
 ·rw[he];obtain⟨i,hi,hik⟩:=List.mem_iff_getElem.1 hk;obtain⟨q,x,e,hx⟩:=xdS _ _ i _ (by rw[List.getElem?_eq_getElem hi])
  rw[hik] at e;have:=xae hx
  simp[xcN]
  omega
theorem xjJ {X:QW}{l:List QE}(hr:Rng X l)(s:QS)(c:Int)(nm:ByteArray):Rng X (xa2 l X s c nm).1/\(∀ s' c',KM X l s' c'->KM X (xa2 l X s c nm).1 s' c')/\(nfB X (s,c,nm)=false->KM X (xa2 l X s c nm).1 s c):=by
 unfold xa2
 split
 ·rename_i h
  exact⟨hr,fun _ _ h=>h,fun _=>xj3 h⟩
 ·split
  ·rename_i h
   exact⟨hr,fun _ _ h=>h,fun h'=>by simp[nfB,h] at h'⟩
  ·rename_i h;have hin:=xmY X.cz c nm h
   exact⟨hr.put s _ hin,fun s' c' h=>h.put s _,fun _=>xoR hr s ⟨c,_⟩ hin⟩
theorem xhk {X:QW}:∀ (q:List Ask) (st:CSt),Rng X st.cells->Rng X (xcB X st q).cells/\(∀ s c,KM X st.cells s c->KM X (xcB X st q).cells s c)/\(∀ a∈q,nfB X a=false->KM X (xcB X st q).cells a.1 a.2.1)
 | [],st,h=>⟨h,fun _ _ h=>h,fun a ha=>by cases ha⟩
 | a :: r,st,h=>by
  obtain⟨h1,h2,h3⟩:=xjJ h a.1 a.2.1 a.2.2;obtain⟨i1,i2,i3⟩:=xhk r (xcb X st a.1 a.2.1 a.2.2).1 h1;refine⟨i1,fun s c hk=>i2 s c (h2 s c hk),fun b hb hn=>?_⟩
  rw[List.mem_cons] at hb
  rcases hb with rfl | hb
  ·exact i2 _ _ (h3 hn)
  ·exact i3 b hb hn
theorem xgd (X:QW):∀ (q:List Ask) (st:CSt),(xcB X st q).hits+(xcB X st q).nots=st.hits+st.nots+q.length/\st.hits<=(xcB X st q).hits/\st.nots<=(xcB X st q).nots
 | [],st=>⟨by simp[xcB],Int.le_refl _,Int.le_refl _⟩
 | a :: r,st=>by
  obtain⟨h1,h2,h3⟩:=xgd X r (xcb X st a.1 a.2.1 a.2.2).1;have e:xcB X st (a :: r)=xcB X (xcb X st a.1 a.2.1 a.2.2).1 r:=rfl;rw[e]
  have:(xcb X st a.1 a.2.1 a.2.2).1.hits+(xcb X st a.1 a.2.1 a.2.2).1.nots=st.hits+st.nots+1/\st.hits<=(xcb X st a.1 a.2.1 a.2.2).1.hits/\st.nots<=(xcb X st a.1 a.2.1 a.2.2).1.nots:=by
   unfold xcb;simp only
   split<;>refine⟨by omega,by omega,by omega⟩
  simp only[List.length_cons]
  omega
theorem xf9 {X:QW}{F:List QE}(hm:∀ x∈F,x.many=false):∀ (q:List Ask) (st:CSt),st.cells=F->(∀ a∈q,nfB X a=false->KM X F a.1 a.2.1)->(xcB X st q).cells=F/\(xcB X st q).nots<=st.nots+q.countP (nfB X)
 | [],st,h,_=>⟨h,by simp[xcB]⟩
 | a :: r,st,h,hq=>by
  have e:xcB X st (a :: r)=xcB X (xcb X st a.1 a.2.1 a.2.2).1 r:=rfl
  have hs:(xcb X st a.1 a.2.1 a.2.2).1.cells=F/\(xcb X st a.1 a.2.1 a.2.2).1.nots<=st.nots+(if nfB X a then 1 else 0):=by
   unfold xcb;simp only;rw[h]
   by_cases hk:xcN X.cz.length (xft F a.1 X.ez a.2.1)=true
   ·unfold xa2;rw[if_pos hk];refine⟨rfl,?_⟩;simp only[if_true]
    split<;>omega
   ·by_cases hn:nfB X a=true
    ·have hn':(xaw X.cz a.2.1 a.2.2).1<0:=by simpa [nfB] using hn
     unfold xa2;rw[if_neg hk,if_pos hn',hn]
     exact⟨rfl,by simp⟩
    ·exact absurd ((hq a (by simp) (by simpa using hn)).get hm) hk
  obtain⟨i1,i2⟩:=xf9 hm r _ hs.1 fun b hb=>hq b (by simp[hb])
  rw[e];refine⟨i1,?_⟩;rw[List.countP_cons];have h2:=hs.2
  split at h2
  ·rename_i hb;rw[if_pos hb];simp only[Int.natCast_add,Int.natCast_one];omega
  ·rename_i hb;rw[if_neg hb];simp only[Int.natCast_add];omega
structure AgPost (a b:Mc CSt × QV × Int):Prop where
 res:b.2=a.2/\b.1.sz_=a.1.sz_
 pos:0<=a.1.st.hits/\0<=a.1.st.nots/\0<=b.1.st.hits/\0<=b.1.st.nots
 all:a.1.st.hits+a.1.st.nots=b.1.st.hits+b.1.st.nots
 few:a.1.st.hits+a.1.st.nots<=a.1.sz_+1
 good:(∀ x∈a.1.st.cells,x.many=false)->a.2.2≠10->b.1.st.nots=0
 bad:(∀ x∈a.1.st.cells,x.many=false)->b.1.st.nots<=1
theorem xnJ {X:QW}(hX:xaJ X=0)(fuel:Int)(c n:Int)(s:QV)(args:List QV)(ts:List QT):AgPost (xa1 (xaL X fuel) 20 ⟨X.heap,0,0,⟨[],[],0,0⟩⟩ c n s args) (xa1 (xaL X fuel) 20 ⟨X.heap,0,0,⟨(xa1 (xaL X fuel) 20 ⟨X.heap,0,0,⟨[],[],0,0⟩⟩ c n s args).1.st.cells,ts,0,0⟩⟩ c n s args):=by
 have h0:TrueS X (⟨[],[],0,0⟩:CSt).cells:=fun x hx=>by cases hx
 obtain⟨q,hq⟩:=xjd hX fuel h0 20 c n s args;have ha:=hq _ h0;generalize xa1 (xaL X fuel) 20 ⟨X.heap,0,0,⟨[],[],0,0⟩⟩ c n s args=a at ha ⊢;have hb:=hq ⟨a.1.st.cells,ts,0,0⟩ ha.tru;generalize xa1 (xaL X fuel) 20 ⟨X.heap,0,0,⟨a.1.st.cells,ts,0,0⟩⟩ c n s args=b at hb ⊢;obtain⟨a1,a2,a3⟩:=xgd X q ⟨[],[],0,0⟩;obtain⟨b1,b2,b3⟩:=xgd X q ⟨a.1.st.cells,ts,0,0⟩;rw[← ha.st] at a1 a2 a3;rw[← hb.st] at b1 b2 b3;simp only at a1 a2 a3 b1 b2 b3;have hk:=(xhk (X:=X) q ⟨[],[],0,0⟩ (fun x hx=>by cases hx)).2.2
 rw[← ha.st] at hk
 have hag:(∀ x∈a.1.st.cells,x.many=false)->b.1.st.nots<=q.countP (nfB X):=fun hm=>by
  have:=(xf9 hm q ⟨a.1.st.cells,ts,0,0⟩ rfl hk).2;rw[← hb.st] at this
  simpa using this
 have hfew:=ha.few;rw[← ha.sz_] at hfew;refine⟨⟨hb.res.trans ha.res.symm,hb.sz_.trans ha.sz_.symm⟩,⟨a2,a3,b2,b3⟩,by omega,by omega,fun hm h10=>?_,fun hm=>?_⟩
 ·have h1:=hag hm;rw[ha.good h10] at h1
  simp at h1
  omega
 ·have h1:=hag hm;have h2:=ha.bad
  omega
def xpy (cs:List QC)(s:QS):Option QI:=
 if (xaw cs s.cls s.name).1=s.cls/\0<=s.cls/\0<=s.at' then (xaO cs s.cls (xaw cs s.cls s.name).2).bind fun m=>m.code[s.at'.toNat]? else none
def xpq (cs:List QC)(s:QS)(y:QL):Bool:=
 match xpy cs s with
 | none=>false
 | some x=>decide (0<=(xaw cs y.cls x.name).2) && decide ((xaw cs y.cls x.name).1=y.found)
def xrq (X:QW)(x:QE):Bool:=x.lz.all fun y=>decide (x.ez≠X.ez) || xpq X.cz x.site y
def xpn (X:QW)(l:List QE):Bool:=l.all (xrq X)
theorem xpZ {xs:List QM}{name:ByteArray}(h:0<=xcu xs name):∃ m,xs[(xcu xs name).toNat]?=some m/\m.name=name:=by
 unfold xcu xbt at h ⊢
 cases hf:xs.findIdx? (fun m=>eqN m.name name) with
 | none=>rw[hf] at h;simp at h
 | some i=>
  rw[List.findIdx?_eq_some_iff_getElem] at hf;obtain⟨h1,h2,-⟩:=hf
  exact⟨xs[i],by simp[h1],(xmV _ _).1 h2⟩
theorem xpJ (cs:List QC)(c:Int)(nm:ByteArray):xaw cs c nm=(-1,-1)\/∃ (q:Nat) (x:QC),cs[q]?=some x/\0<=xcu x.mz nm/\xaw cs c nm=((q:Int),xcu x.mz nm):=by
 rw[xeo c]
 rcases xed (xs:=cs) (name:=nm) (l:=xde cs (cs.length+1) c) with he | ⟨k,hk,h1,he⟩
 ·exact Or.inl he
 ·obtain⟨i,hi,hik⟩:=List.mem_iff_getElem.1 hk;obtain⟨q,x,e,hx⟩:=xdS _ _ i _ (by rw[List.getElem?_eq_getElem hi])
  rw[hik] at e;subst e;have hm:xbD cs (q:Int)=x.mz:=by unfold xbD;rw[xfp,hx];rfl
  rw[hm] at h1 he
  exact Or.inr ⟨q,x,hx,h1,he⟩
theorem xpx (cs:List QC)(c:Int)(nm:ByteArray):(0<=(xaw cs c nm).1 ↔ 0<=(xaw cs c nm).2)/\(xaw cs c nm).1<cs.length:=by
 rcases xpJ cs c nm with e | ⟨q,x,hx,h1,e⟩
 ·rw[e];exact⟨by simp,by simp;omega⟩
 ·have:=xae hx;rw[e]
  exact⟨⟨fun _=>h1,fun _=>by simp⟩,by simp;omega⟩
theorem xqO {cs:List QC}{s:QS}{x:QI}(h:xpy cs s=some x):∃ n m,xaO cs s.cls n=some m/\m.name=s.name/\∃ k:Nat,s.at'=(k:Int)/\m.code[k]?=some x:=by
 unfold xpy at h
 split at h
 ·rename_i hc;obtain⟨c1,c2,c3⟩:=hc;obtain⟨k,hk⟩:∃ k:Nat,s.at'=(k:Int):=⟨s.at'.toNat,by omega⟩
  rw[hk] at h;simp only[Int.toNat_natCast] at h
  cases hm:xaO cs s.cls (xaw cs s.cls s.name).2 with
  | none=>rw[hm] at h;cases h
  | some m=>
   rw[hm] at h;refine⟨_,m,hm,?_,k,hk,h⟩
   rcases xpJ cs s.cls s.name with e | ⟨q,y,hy,h1,e⟩
   ·rw[e] at c1;simp at c1;omega
   ·obtain⟨m',e1,e2⟩:=xpZ h1;rw[e] at hm c1;simp only at c1;unfold xaO at hm;rw[← c1,xfp,hy] at hm;simp only[Option.bind_some,if_pos h1] at hm;rw[e1] at hm
    cases hm
    exact e2
 ·cases h
def InS (X:QW)(l:List QE):Prop:=∀ x∈l,x.ez=X.ez->∀ y∈x.lz,y.found<X.cz.length
theorem xqr {X:QW}(hX:xaJ X=0){l:List QE}(h:xpn X l=true):TrueS X l/\InS X l:=by
 have key:∀ x∈l,x.ez=X.ez->∀ y∈x.lz,∃ i,xpy X.cz x.site=some i/\0<=(xaw X.cz y.cls i.name).2/\(xaw X.cz y.cls i.name).1=y.found:=by
  intro x hx he y hy;have h1:=List.all_eq_true.1 (List.all_eq_true.1 h x hx) y hy;simp only[he,ne_eq,not_true_eq_false,decide_false,Bool.false_or] at h1;unfold xpq at h1
  cases hc:xpy X.cz x.site with
  | none=>rw[hc] at h1;cases h1
  | some i=>
   rw[hc] at h1;simp only[Bool.and_eq_true,decide_eq_true_eq] at h1
   exact⟨i,rfl,h1.1,h1.2⟩
 refine⟨fun x hx he y hy nm hs=>?_,fun x hx he y hy=>?_⟩
 ·obtain⟨i,h1,h2,h3⟩:=key x hx he y hy;obtain⟨n,m,e1,e2,k,e3,e4⟩:=xqO h1;obtain⟨n',mt',k',x',g1,g2,g3,g4,-,rfl⟩:=hs;obtain rfl:m=mt':=xhw hX e1 g1 (by rw[e2,g2])
  obtain rfl:k=k':=by omega
  rw[e4] at g4
  cases g4
  rw[← h3]
  exact xh2 X.cz y.cls i.name ((xpx _ _ _).1.2 h2)
 ·obtain⟨i,h1,h2,h3⟩:=key x hx he y hy;rw[← h3]
  exact (xpx _ _ _).2
def xpv (X:QW)(st:CSt)(s:QS)(c:Int)(nm:ByteArray):CSt:=
 if 0<=xft st.cells s X.ez c then ⟨st.cells,xc1 st.ts s c,st.hits+1,st.nots⟩
 else ⟨if 0<=(xaw X.cz c nm).2 then xcX st.cells s X.ez ⟨c,(xaw X.cz c nm).1⟩ else st.cells,xc1 st.ts s c,st.hits,st.nots+1⟩
theorem InS.look {X:QW}{st:CSt}(h:InS X st.cells)(s:QS)(c:Int)(nm:ByteArray):(xcb X st s c nm).1=xpv X st s c nm/\InS X (xpv X st s c nm).cells:=by
 have e:(xcb X st s c nm).1=xpv X st s c nm:=by
  unfold xcb xpv xa2
  by_cases h0:0<=xft st.cells s X.ez c
  ·obtain⟨x,hx,hs,he,y,hy,h1,h2⟩:=xlF h0;have h3:=h x hx he y hy;rw[h2] at h3;rw[if_pos (by simp[xcN];omega),if_pos h0]
   rfl
  ·rw[if_neg (by simp[xcN];omega),if_neg h0]
   have h2:=(xpx X.cz c nm).1
   by_cases hf:(xaw X.cz c nm).1<0
   ·have h3:¬ 0<=(xaw X.cz c nm).2:=by omega
    rw[if_pos hf,if_neg h3];rfl
   ·have h3:0<=(xaw X.cz c nm).2:=by omega
    rw[if_neg hf,if_pos h3];rfl
 refine⟨e,?_⟩;unfold xpv
 split
 ·exact h
 ·dsimp only
  split
  ·intro z hz he u hu
   rcases xhN _ _ _ _ z hz with h' | ⟨h1,h2,h3⟩
   ·exact h z h' he u hu
   ·rcases h3 u hu with rfl | ⟨x,hx,e1,e2,hu'⟩
    ·exact (xpx _ _ _).2
    ·exact h x hx e2 u hu'
  ·exact h
def xqa (X:QW)(st:CSt)(q:List Ask):CSt:=q.foldl (fun st a=>xpv X st a.1 a.2.1 a.2.2) st
theorem xq5 {X:QW}:∀ (q:List Ask) (st:CSt),InS X st.cells->xcB X st q=xqa X st q
 | [],st,h=>rfl
 | a :: q,st,h=>by
  obtain⟨h1,h2⟩:=h.look a.1 a.2.1 a.2.2
  show xcB X (xcb X st a.1 a.2.1 a.2.2).1 q=xqa X (xpv X st a.1 a.2.1 a.2.2) q
  rw[h1]
  exact xq5 q _ h2
theorem xpA {P Q:Nat->Prop}(xs:List QL)(va vb:Value)(w:World)(ha:xbI P w va xs)(hb:xbI Q w vb xs):Calls Tryz.prog 30 #[va,vb] w fun e w'=>e=.returned (.bool true)/\∃ n,w'=w.drewN n:=by
 obtain⟨ad,cap,rfl,hl,hcap,-,hrow⟩:=ha;obtain⟨ad',cap',rfl,hl',hcap',-,hrow'⟩:=hb;unfold maxLen at hcap hcap';go_enter Tryz.func30,Tryz.ntmps30;go_wp2
 go_loopg [13] xs.length (fun g c wr=>∃ j:Nat,j+g=xs.length/\c=.int .i64 j/\∃ n,wr=w.drewN n)
 case atStart=>exact⟨0,by omega,rfl,0,rfl⟩
 case round=>
  obtain⟨j,hj,rfl,nn,rfl⟩:=hrel
  by_cases hlt:j<xs.length
  ·obtain⟨b,o,rfl,-,q0,q1⟩:=hrow j xs[j] (by simp[hlt])
   obtain⟨b',o',rfl,-,k0,k1⟩:=hrow' j xs[j] (by simp[hlt])
   generalize xs[j]=x at *;simp only[Nat.add_zero] at q0 k0;have hj1:(j:Int)<(xs.length:Int):=by omega
   have hj0:(0:Int)<=(j:Int):=by omega
   clear hrow hrow';go_wp2
   go_quiet (fail)
   go_wp2
   go_roundg (gk-1)
   case measure=>omega
   case rel=>exact⟨j+1,by omega,by go_num,_,rfl⟩
  ·go_wp2
   go_ret
   exact⟨rfl,_,rfl⟩
theorem xpH {P Q:Nat->Prop}(xs:List QT)(va vb:Value)(w:World)(ha:xbc P w va xs)(hb:xbc Q w vb xs):Calls Tryz.prog 11 #[va,vb] w fun e w'=>e=.returned (.bool true)/\Below w.heap.size w w':=by
 obtain⟨ad,cap,rfl,hl,hcap,-,hrow⟩:=ha;obtain⟨ad',cap',rfl,hl',hcap',-,hrow'⟩:=hb;unfold maxLen at hcap hcap';go_enter Tryz.func11,Tryz.ntmps11;go_wp2
 go_loopg [13] xs.length (fun g c wr=>∃ j:Nat,j+g=xs.length/\c=.int .i64 j/\Below w.heap.size w wr)
 case atStart=>exact⟨0,by omega,rfl,qzL _ _⟩
 case round=>
  obtain⟨j,hj,rfl,hbel⟩:=hrel
  by_cases hlt:j<xs.length
  ·obtain⟨b,o,rfl,-,q0,q1,q2,lv,q3,ql⟩:=hrow j xs[j] (by simp[hlt])
   obtain⟨b',o',rfl,-,k0,k1,k2,lv',k3,kl⟩:=hrow' j xs[j] (by simp[hlt])
   generalize xs[j]=x at *;simp only[Nat.add_zero] at q0 k0;replace q0:=qzA hbel q0;replace q1:=qzA hbel q1;replace q2:=qzA hbel q2;replace q3:=qzA hbel q3;replace ql:=ql.later xbq hbel;replace k0:=qzA hbel k0;replace k1:=qzA hbel k1;replace k2:=qzA hbel k2;replace k3:=qzA hbel k3;replace kl:=kl.later xbq hbel;have he:=fun w=>neqS x.site x.site w
   rw[(xcf x.site x.site).2 rfl] at he;have hj1:(j:Int)<(xs.length:Int):=by omega
   have hj0:(0:Int)<=(j:Int):=by omega
   clear hrow hrow';go_wp2
   go_quiet (first | (go_at_call 30;refine Calls.quiet_of (xpA x.lz _ _ _ (ql.later xbq (below_drewN (qzL _ _) _)) (kl.later xbq (below_drewN (qzL _ _) _)))))
   go_wp2
   go_roundg (gk-1)
   case measure=>omega
   case rel=>exact⟨j+1,by omega,by go_num,xah hbel (below_drewN (qzL _ _) _)⟩
  ·go_wp2
   go_ret
   exact⟨rfl,hbel⟩
end Go.Proofs.YtapbeiccodnniaaGreat
