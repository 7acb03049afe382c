/- A part. -/
import Derived.Test.YtapbeiccodnniaaGreatM3
namespace Go.Proofs.YtapbeiccodnniaaGreat
open Go.ChangeShapes Go.WideShapes Go.ChangeAt Go.RowKit
set_option linter.unusedSimpArgs false
set_option linter.unusedVariables false
set_option maxHeartbeats 8000000
def TrueS (X:QW)(l:List QE):Prop:=∀ x∈l,x.ez=X.ez->∀ y∈x.lz,∀ nm,xcW X.cz x.site nm->xaw X.cz y.found nm=xaw X.cz y.cls nm
theorem xaZ (x:QE)(y:QL):(xax x y).site=x.site/\(xax x y).ez=x.ez:=by
 unfold xax
 split
 ·exact⟨rfl,rfl⟩
 ·split<;>exact⟨rfl,rfl⟩
theorem xcP {x:QE}{s:QS}{ep:Int}(hs:x.site=s):(xbS x s ep).site=s/\(xbS x s ep).ez=ep/\∀ u∈(xbS x s ep).lz,x.ez=ep/\u∈x.lz:=by
 unfold xbS
 split
 ·rename_i h;exact⟨hs,h,fun u hu=>⟨h,hu⟩⟩
 ·exact⟨rfl,rfl,fun u hu=>by simp at hu⟩
theorem xhN (s:QS)(ep:Int)(y:QL):∀ (l:List QE) (z:QE),z∈xcX l s ep y->z∈l\/(z.site=s/\z.ez=ep/\∀ u∈z.lz,u=y\/∃ x∈l,x.site=s/\x.ez=ep/\u∈x.lz)
 | [],z,h=>by
  simp[xcX] at h
  subst h;refine Or.inr ⟨(xaZ _ _).1,(xaZ _ _).2,fun u hu=>?_⟩
  rcases xdC _ _ _ hu with h | h
  ·simp at h
  ·exact Or.inl h
 | x :: r,z,h=>by
  unfold xcX at h
  split at h
  ·rename_i hs;rw[List.mem_cons] at h
   rcases h with rfl | h
   ·have hf:=xcP (ep:=ep) ((xcf _ _).1 hs);refine Or.inr ⟨(xaZ _ _).1.trans hf.1,(xaZ _ _).2.trans hf.2.1,fun u hu=>?_⟩
    rcases xdC _ _ _ hu with h | h
    ·exact Or.inr ⟨x,by simp,(xcf _ _).1 hs,hf.2.2 u h⟩
    ·exact Or.inl h
   ·exact Or.inl (by simp[h])
  ·rw[List.mem_cons] at h
   rcases h with rfl | h
   ·exact Or.inl (by simp)
   ·rcases xhN s ep y r z h with h | ⟨h1,h2,h3⟩
    ·exact Or.inl (by simp[h])
    ·refine Or.inr ⟨h1,h2,fun u hu=>?_⟩
     rcases h3 u hu with h | ⟨x',hx',h⟩
     ·exact Or.inl h
     ·exact Or.inr ⟨x',by simp[hx'],h⟩
theorem xlF {l:List QE}{s:QS}{ep c:Int}(h:0<=xft l s ep c):∃ x∈l,x.site=s/\x.ez=ep/\∃ y∈x.lz,y.cls=c/\y.found=xft l s ep c:=by
 unfold xft at h ⊢
 cases hf:l.find? fun x=>eqS x.site s with
 | none=>rw[hf] at h;simp at h
 | some x=>
  rw[hf] at h;simp only[Option.map_some,Option.getD_some] at h ⊢;have hx:=List.mem_of_find?_eq_some hf;have hs:x.site=s:=by have h':=List.find?_some hf;exact (xcf _ _).1 h'
  by_cases he:x.ez=ep
  ·rw[if_pos he] at h ⊢;unfold xen at h ⊢
   cases hy:x.lz.find? fun y=>y.cls == c with
   | none=>rw[hy] at h;simp at h
   | some y=>
    refine⟨x,hx,hs,he,y,List.mem_of_find?_eq_some hy,?_,by simp⟩
    have:=List.find?_some hy
    simpa using this
  ·rw[if_neg he] at h;simp at h
theorem TrueS.find {X:QW}(hX:xaJ X=0){l:List QE}(h:TrueS X l){s:QS}{name:ByteArray}(hn:xcW X.cz s name)(c:Int):(xa2 l X s c name).2.1=xaw X.cz c name/\TrueS X (xa2 l X s c name).1:=by
 unfold xa2
 split
 ·rename_i hh;have h0:0<=xft l s X.ez c:=by simp[xcN] at hh;omega
  obtain⟨x,hx,hs,he,y,hy,h1,h2⟩:=xlF h0;refine⟨?_,h⟩
  show xaw X.cz (xft l s X.ez c) name=_
  rw[← h2,← h1]
  exact h x hx he y hy name (by rw[hs];exact hn)
 ·split
  ·exact⟨rfl,h⟩
  ·rename_i hk;refine⟨rfl,fun z hz he u hu nm hnm=>?_⟩
   rcases xhN _ _ _ _ z hz with h' | ⟨h1,h2,h3⟩
   ·exact h z h' he u hu nm hnm
   ·rw[h1] at hnm
    rcases h3 u hu with rfl | ⟨x,hx,e1,e2,hu'⟩
    ·rw[xmz hX hnm hn]
     exact xh2 X.cz c name (by omega)
    ·exact h x hx e2 u hu' nm (by rw[e1];exact hnm)
structure CSt where
 cells:List QE
 ts:List QT
 hits:Int
 nots:Int
def xcb (X:QW)(st:CSt)(s:QS)(c:Int)(name:ByteArray):CSt × (Int × Int):=
 (⟨(xa2 st.cells X s c name).1,xc1 st.ts s c,if (xa2 st.cells X s c name).2.2 then st.hits+1 else st.hits,if (xa2 st.cells X s c name).2.2 then st.nots else st.nots+1⟩,(xa2 st.cells X s c name).2.1)
def xaL (X:QW)(fuel:Int):Env CSt:=⟨X.cz,fuel,xcb X,xfk⟩
abbrev Ask:=QS × Int × ByteArray
def xcQ (X:QW)(fuel:Int):Env (List Ask):=⟨X.cz,fuel,fun q s c nm=>(q++[(s,c,nm)],xaw X.cz c nm),xfk⟩
def xcB (X:QW)(st:CSt)(q:List Ask):CSt:=q.foldl (fun st a=>(xcb X st a.1 a.2.1 a.2.2).1) st
theorem xfr {cs:List QC}{c n:Int}{m:QM}(h:xaO cs c n=some m){k:Nat}{x:QI}(hk:m.code[k]?=some x)(h14:x.op=14):xcW cs ⟨c,m.name,k⟩ x.name:=⟨n,m,k,x,h,rfl,rfl,hk,h14,rfl⟩
theorem xlm {X:QW}(hX:xaJ X=0)(fuel:Int)(st0:CSt):ER (fun (q:List Ask) st=>st=xcB X st0 q/\TrueS X st.cells) (xcW X.cz) (xcQ X fuel) (xaL X fuel) where
 cz:=rfl
 fuel:=rfl
 quick:=rfl
 look:=fun q st s c name h hs=>by
  obtain⟨h1,h2⟩:=TrueS.find hX h.2 hs c;refine⟨h1,?_,h2⟩
  show (xcb X st s c name).1=xcB X st0 (q++[(s,c,name)])
  unfold xcB;rw[List.foldl_append,h.1]
  rfl
 plain:=fun c n m h k x hk h14=>xfr h hk h14
 fast:=fun c n m q h hq=>by cases hq
theorem xou (X:QW)(fuel:Int):ER (fun (_:Unit) (_:List Ask)=>True) (xcW X.cz) (xcJ X fuel) (xcQ X fuel) where
 cz:=rfl
 fuel:=rfl
 quick:=rfl
 look:=fun _ _ _ _ _ _ _=>⟨rfl,trivial⟩
 plain:=fun c n m h k x hk h14=>xfr h hk h14
 fast:=fun c n m q h hq=>by cases hq
def nfB (X:QW)(a:Ask):Bool:=decide ((xaw X.cz a.2.1 a.2.2).1<0)
theorem xnm (X:QW)(fuel:Int):Cnt (xcQ X fuel) List.length (fun q=>q.countP (nfB X)) where
 a:=fun st s c nm=>by simp[xcQ]
 b:=fun st s c nm=>by
  simp only[xcQ,List.countP_append,List.countP_cons,List.countP_nil]
  by_cases h:(xaw X.cz c nm).1<0
  ·refine Or.inr ⟨by simp[nfB,h],?_⟩
   unfold xaO xby;rw[if_neg (by omega)]
   rfl
  ·exact Or.inl (by simp[nfB,h])
structure CRan (X:QW)(st0:CSt)(q:List Ask)(r:Mc CSt × QV × Int)(p:Mc Unit × QV × Int):Prop where
 heap:r.1.heap=p.1.heap
 sz_:r.1.sz_=p.1.sz_
 res:r.2=p.2
 st:r.1.st=xcB X st0 q
 tru:TrueS X r.1.st.cells
 few:(q.length:Int)<=p.1.sz_+1
 good:r.2.2≠10->q.countP (nfB X)=0
 bad:q.countP (nfB X)<=1
theorem xf4 {X:QW}(hX:xaJ X=0)(fuel:Int)(d:Nat)(c n:Int)(s:QV)(a:List QV)(st1:CSt)(h1:TrueS X st1.cells):CRan X st1 (xa1 (xcQ X fuel) d ⟨X.heap,0,0,[]⟩ c n s a).1.st (xa1 (xaL X fuel) d ⟨X.heap,0,0,st1⟩ c n s a) (xa1 (xcJ X fuel) d ⟨X.heap,0,0,()⟩ c n s a):=by
 obtain⟨⟨a1,a2,a3,-⟩,a4⟩:=xfi (xou X fuel) d ⟨X.heap,0,0,()⟩ ⟨X.heap,0,0,[]⟩ c n s a ⟨rfl,rfl,rfl,trivial⟩;obtain⟨⟨b1,b2,b3,b4⟩,b5⟩:=xfi (xlm hX fuel st1) d ⟨X.heap,0,0,[]⟩ ⟨X.heap,0,0,st1⟩ c n s a ⟨rfl,rfl,rfl,rfl,h1⟩;have hi:=(xjW (xnm X fuel) d ⟨X.heap,0,0,[]⟩ c n s a).1;generalize xa1 (xcQ X fuel) d ⟨X.heap,0,0,[]⟩ c n s a=l at *;refine⟨b1.trans a1,b2.trans a2,b5.trans a4,b4.1,b4.2,?_,?_,?_⟩
 ·rw[← a2]
  by_cases h:l.2.2=0
  ·have:=(hi.good h).1;simp at this;omega
  ·have:=(hi.bad h).1;simp at this;omega
 ·rw[b5];intro h10
  by_cases h:l.2.2=0
  ·simpa using (hi.good h).2
  ·rcases (hi.bad h).2 with h' | ⟨h',-⟩
   ·simpa using h'
   ·exact absurd h' h10
 ·by_cases h:l.2.2=0
  ·have:=(hi.good h).2;simp only[List.countP_nil] at this;omega
  ·rcases (hi.bad h).2 with h' | ⟨-,h'⟩
   ·simp only[List.countP_nil] at h';omega
   ·simp only[List.countP_nil] at h';omega
theorem xjd {X:QW}(hX:xaJ X=0)(fuel:Int){st0:CSt}(h0:TrueS X st0.cells)(d:Nat)(c n:Int)(s:QV)(a:List QV):∃ q,(∀ st1,TrueS X st1.cells->CRan X st1 q (xa1 (xaL X fuel) d ⟨X.heap,0,0,st1⟩ c n s a) (xa1 (xcJ X fuel) d ⟨X.heap,0,0,()⟩ c n s a)):=by
 exact⟨_,fun st1 h1=>xf4 hX fuel d c n s a st1 h1⟩
def xd0 (l:List QE)(s:QS):Option QE:=l.find? fun x=>eqS x.site s
theorem xeG (s:QS):eqS s s=true:=(xcf s s).2 rfl
theorem xfs (s:QS)(ep:Int)(y:QL):∀ l:List QE,xd0 (xcX l s ep y) s=some (xax (match xd0 l s with | none=>⟨s,ep,false,[]⟩ | some x=>xbS x s ep) y)
 | []=>by simp[xcX,xd0,(xaZ _ _).1,xeG]
 | x :: r=>by
  unfold xcX xd0
  by_cases h:eqS x.site s=true
  ·have hf:=xcP (ep:=ep) ((xcf _ _).1 h);rw[if_pos h,List.find?_cons_of_pos (by rw[(xaZ _ _).1,hf.1];exact xeG s),List.find?_cons_of_pos (p:=fun x:QE=>eqS x.site s) h]
  ·rw[if_neg h,List.find?_cons_of_neg (by simpa using h),List.find?_cons_of_neg (by simpa using h)]
   exact xfs s ep y r
theorem xfb (s s':QS)(ep:Int)(y:QL)(hs:s'≠s):∀ l:List QE,xd0 (xcX l s ep y) s'=xd0 l s'
 | []=>by
  have:eqS (xax ⟨s,ep,false,[]⟩ y).site s'=false:=by rw[(xaZ _ _).1];exact Bool.eq_false_iff.2 fun h=>hs ((xcf _ _).1 h).symm
  simp[xcX,xd0,this]
 | x :: r=>by
  unfold xcX xd0
  by_cases h:eqS x.site s=true
  ·have hxs:=(xcf _ _).1 h;have hf:=xcP (ep:=ep) hxs;have h1:eqS (xax (xbS x s ep) y).site s'=false:=by rw[(xaZ _ _).1,hf.1];exact Bool.eq_false_iff.2 fun h=>hs ((xcf _ _).1 h).symm
   have h2:eqS x.site s'=false:=by rw[hxs];exact Bool.eq_false_iff.2 fun h=>hs ((xcf _ _).1 h).symm
   rw[if_pos h,List.find?_cons_of_neg (by simpa using h1),List.find?_cons_of_neg (by simpa using h2)]
  ·rw[if_neg h]
   by_cases h':eqS x.site s'=true
   ·rw[List.find?_cons_of_pos (p:=fun x:QE=>eqS x.site s') h',List.find?_cons_of_pos (p:=fun x:QE=>eqS x.site s') h']
   ·rw[List.find?_cons_of_neg (by simpa using h'),List.find?_cons_of_neg (by simpa using h')]
    exact xfb s s' ep y hs r
def KM (X:QW)(l:List QE)(s:QS)(c:Int):Prop:=∃ x,xd0 l s=some x/\x.ez=X.ez/\(x.many=true\/xcN X.cz.length (xen x.lz c)=true)
def Rng (X:QW)(l:List QE):Prop:=∀ x∈l,∀ y∈x.lz,xcN X.cz.length y.found=true
theorem xeN {ls:List QL}{c:Int}{y:QL}(h:(ls.find? fun y=>y.cls == c)=some y):xen ls c=y.found:=by unfold xen;rw[h];rfl
theorem xmg {X:QW}{ls:List QL}{c:Int}(h:xcN X.cz.length (xen ls c)=true):∃ y,(ls.find? fun y=>y.cls == c)=some y:=by
 cases hf:ls.find? fun y=>y.cls == c with
 | some y=>exact⟨y,rfl⟩
 | none=>unfold xen at h;rw[hf] at h;simp[xcN] at h
theorem xj2 {ls:List QL}{c:Int}(h:0<=xbt (fun z:QL=>z.cls == c) ls):∃ y,(ls.find? fun y=>y.cls == c)=some y:=by
 cases hf:ls.find? fun y=>y.cls == c with
 | some y=>exact⟨y,rfl⟩
 | none=>
  rw[List.find?_eq_none] at hf;rw[xbM fun i y hy=>by simpa using hf y (List.mem_of_getElem? hy)] at h
  omega
theorem KM.with {X:QW}{x:QE}{c:Int}(y:QL)(h:x.many=true\/xcN X.cz.length (xen x.lz c)=true):(xax x y).many=true\/xcN X.cz.length (xen (xax x y).lz c)=true:=by
 unfold xax
 split
 ·exact h
 ·split
  ·exact Or.inl rfl
  ·rcases h with h | h
   ·exact Or.inl h
   ·obtain⟨z,hz⟩:=xmg h;refine Or.inr ?_;have:((x.lz++[y]).find? fun y=>y.cls == c)=some z:=by rw[List.find?_append,hz];rfl
    rw[xeN this,← xeN hz]
    exact h
theorem KM.put {X:QW}{l:List QE}{s:QS}{c:Int}(h:KM X l s c)(s':QS)(y:QL):KM X (xcX l s' X.ez y) s c:=by
 obtain⟨x,h1,h2,h3⟩:=h
 by_cases hs:s=s'
 ·subst hs;refine⟨_,xfs _ _ _ _,?_,?_⟩
  ·rw[(xaZ _ _).2,h1];simp only;unfold xbS;rw[if_pos h2];exact h2
  ·rw[h1];simp only;unfold xbS;rw[if_pos h2];exact KM.with y h3
 ·exact⟨x,by rw[xfb _ _ _ _ hs];exact h1,h2,h3⟩
theorem xj3 {X:QW}{l:List QE}{s:QS}{c:Int}(h:xcN X.cz.length (xft l s X.ez c)=true):KM X l s c:=by
 unfold xft at h
 cases hf:l.find? fun x=>eqS x.site s with
 | none=>rw[hf] at h;simp[xcN] at h
 | some x=>
  rw[hf] at h;simp only[Option.map_some,Option.getD_some] at h
  by_cases he:x.ez=X.ez
  ·rw[if_pos he] at h
   exact⟨x,hf,he,Or.inr h⟩
  ·rw[if_neg he] at h;simp[xcN] at h
theorem KM.get {X:QW}{l:List QE}{s:QS}{c:Int}(h:KM X l s c)(hm:∀ x∈l,x.many=false):xcN X.cz.length (xft l s X.ez c)=true:=by
 obtain⟨x,h1,h2,h3⟩:=h;have hx:=List.mem_of_find?_eq_some h1;rw[hm x hx] at h3;unfold xft;unfold xd0 at h1;rw[h1];simp only[Option.map_some,Option.getD_some];rw[if_pos h2]
 rcases h3 with h | h
 ·cases h
 ·exact h
theorem xoR {X:QW}{l:List QE}(hr:Rng X l)(s:QS)(y:QL)(hy:xcN X.cz.length y.found=true):KM X (xcX l s X.ez y) s y.cls:=by
 refine⟨_,xfs _ _ _ _,?_,?_⟩
 ·rw[(xaZ _ _).2]
  cases hc:xd0 l s with
  | none=>rfl
  | some x=>
   have:=(xcf _ _).1 (show eqS x.site s=true from by have h':=List.find?_some hc;exact h')
   exact (xcP (ep:=X.ez) this).2.1
 ·have hz:∀ z∈(match xd0 l s with | none=>(⟨s,X.ez,false,[]⟩:QE) | some x=>xbS x s X.ez).lz,xcN X.cz.length z.found=true:=by
   cases hc:xd0 l s with
   | none=>intro z hz;simp at hz
   | some x=>
    intro z hz;have:=(xcf _ _).1 (show eqS x.site s=true from by have h':=List.find?_some hc;exact h')
    exact hr x (List.mem_of_find?_eq_some hc) z ((xcP (ep:=X.ez) this).2.2 z hz).2
  generalize (match xd0 l s with | none=>(⟨s,X.ez,false,[]⟩:QE) | some x=>xbS x s X.ez)=x at hz ⊢
  unfold xax
  split
  ·rename_i h
   rcases h with h | h
   ·exact Or.inl h
   ·obtain⟨z,hf⟩:=xj2 h;refine Or.inr ?_;rw[xeN hf]
    exact hz z (List.mem_of_find?_eq_some hf)
  ·split
   ·exact Or.inl rfl
   ·rename_i h h';refine Or.inr ?_
    have hn:(x.lz.find? fun z=>z.cls == y.cls)=none:=by
     rw[List.find?_eq_none];intro z hz';intro hzc
     apply h
     refine Or.inr ?_
     cases hi:x.lz.findIdx? fun z=>z.cls == y.cls with
     | some j=>unfold xbt;rw[hi];simp
     | none=>rw[List.findIdx?_eq_none_iff] at hi;have:=hi z hz';rw[this] at hzc;cases hzc
    have:((x.lz++[y]).find? fun z=>z.cls == y.cls)=some y:=by rw[List.find?_append,hn];simp
    rw[xeN this]
    exact hy
theorem Rng.put {X:QW}{l:List QE}(h:Rng X l)(s:QS)(y:QL)(hy:xcN X.cz.length y.found=true):Rng X (xcX l s X.ez y):=fun z hz u hu=>by
 rcases xhN _ _ _ _ z hz with h' | ⟨-,-,h3⟩
 ·exact h z h' u hu
 ·rcases h3 u hu with rfl | ⟨x,hx,-,-,hu'⟩
  ·exact hy
  ·exact h x hx u hu'
theorem xmY (xs:List QC)(c:Int)(nm:ByteArray)(h:¬ (xaw xs c nm).1<0):xcN xs.length (xaw xs c nm).1=true:=by
 rw[xeo c] at h ⊢
 rcases xed (xs:=xs) (name:=nm) (l:=xde xs (xs.length+1) c) with he | ⟨k,hk,h1,he⟩
 ·rw[he] at h;simp at h
 ·rw[he];obtain⟨i,hi,hik⟩:=List.mem_iff_getElem.1 hk;obtain⟨q,x,e,hx⟩:=xdS _ _ i _ (by rw[List.getElem?_eq_getElem hi])
  rw[hik] at e;have:=xae hx
  simp[xcN]
  omega
theorem xjJ {X:QW}{l:List QE}(hr:Rng X l)(s:QS)(c:Int)(nm:ByteArray):Rng X (xa2 l X s c nm).1/\(∀ s' c',KM X l s' c'->KM X (xa2 l X s c nm).1 s' c')/\(nfB X (s,c,nm)=false->KM X (xa2 l X s c nm).1 s c):=by
 unfold xa2
 split
 ·rename_i h
  exact⟨hr,fun _ _ h=>h,fun _=>xj3 h⟩
 ·split
  ·rename_i h
   exact⟨hr,fun _ _ h=>h,fun h'=>by simp[nfB,h] at h'⟩
  ·rename_i h;have hin:=xmY X.cz c nm h
   exact⟨hr.put s _ hin,fun s' c' h=>h.put s _,fun _=>xoR hr s ⟨c,_⟩ hin⟩
theorem xhk {X:QW}:∀ (q:List Ask) (st:CSt),Rng X st.cells->Rng X (xcB X st q).cells/\(∀ s c,KM X st.cells s c->KM X (xcB X st q).cells s c)/\(∀ a∈q,nfB X a=false->KM X (xcB X st q).cells a.1 a.2.1)
 | [],st,h=>⟨h,fun _ _ h=>h,fun a ha=>by cases ha⟩
 | a :: r,st,h=>by
  obtain⟨h1,h2,h3⟩:=xjJ h a.1 a.2.1 a.2.2;obtain⟨i1,i2,i3⟩:=xhk r (xcb X st a.1 a.2.1 a.2.2).1 h1;refine⟨i1,fun s c hk=>i2 s c (h2 s c hk),fun b hb hn=>?_⟩
  rw[List.mem_cons] at hb
  rcases hb with rfl | hb
  ·exact i2 _ _ (h3 hn)
  ·exact i3 b hb hn
theorem xgd (X:QW):∀ (q:List Ask) (st:CSt),(xcB X st q).hits+(xcB X st q).nots=st.hits+st.nots+q.length/\st.hits<=(xcB X st q).hits/\st.nots<=(xcB X st q).nots
 | [],st=>⟨by simp[xcB],Int.le_refl _,Int.le_refl _⟩
 | a :: r,st=>by
  obtain⟨h1,h2,h3⟩:=xgd X r (xcb X st a.1 a.2.1 a.2.2).1;have e:xcB X st (a :: r)=xcB X (xcb X st a.1 a.2.1 a.2.2).1 r:=rfl;rw[e]
  have:(xcb X st a.1 a.2.1 a.2.2).1.hits+(xcb X st a.1 a.2.1 a.2.2).1.nots=st.hits+st.nots+1/\st.hits<=(xcb X st a.1 a.2.1 a.2.2).1.hits/\st.nots<=(xcb X st a.1 a.2.1 a.2.2).1.nots:=by
   unfold xcb;simp only
   split<;>refine⟨by omega,by omega,by omega⟩
  simp only[List.length_cons]
  omega
theorem xf9 {X:QW}{F:List QE}(hm:∀ x∈F,x.many=false):∀ (q:List Ask) (st:CSt),st.cells=F->(∀ a∈q,nfB X a=false->KM X F a.1 a.2.1)->(xcB X st q).cells=F/\(xcB X st q).nots<=st.nots+q.countP (nfB X)
 | [],st,h,_=>⟨h,by simp[xcB]⟩
 | a :: r,st,h,hq=>by
  have e:xcB X st (a :: r)=xcB X (xcb X st a.1 a.2.1 a.2.2).1 r:=rfl
  have hs:(xcb X st a.1 a.2.1 a.2.2).1.cells=F/\(xcb X st a.1 a.2.1 a.2.2).1.nots<=st.nots+(if nfB X a then 1 else 0):=by
   unfold xcb;simp only;rw[h]
   by_cases hk:xcN X.cz.length (xft F a.1 X.ez a.2.1)=true
   ·unfold xa2;rw[if_pos hk];refine⟨rfl,?_⟩;simp only[if_true]
    split<;>omega
   ·by_cases hn:nfB X a=true
    ·have hn':(xaw X.cz a.2.1 a.2.2).1<0:=by simpa [nfB] using hn
     unfold xa2;rw[if_neg hk,if_pos hn',hn]
     exact⟨rfl,by simp⟩
    ·exact absurd ((hq a (by simp) (by simpa using hn)).get hm) hk
  obtain⟨i1,i2⟩:=xf9 hm r _ hs.1 fun b hb=>hq b (by simp[hb])
  rw[e];refine⟨i1,?_⟩;rw[List.countP_cons];have h2:=hs.2
  split at h2
  ·rename_i hb;rw[if_pos hb];simp only[Int.natCast_add,Int.natCast_one];omega
  ·rename_i hb;rw[if_neg hb];simp only[Int.natCast_add];omega
structure AgPost (a b:Mc CSt × QV × Int):Prop where
 res:b.2=a.2/\b.1.sz_=a.1.sz_
 pos:0<=a.1.st.hits/\0<=a.1.st.nots/\0<=b.1.st.hits/\0<=b.1.st.nots
 all:a.1.st.hits+a.1.st.nots=b.1.st.hits+b.1.st.nots
 few:a.1.st.hits+a.1.st.nots<=a.1.sz_+1
 good:(∀ x∈a.1.st.cells,x.many=false)->a.2.2≠10->b.1.st.nots=0
 bad:(∀ x∈a.1.st.cells,x.many=false)->b.1.st.nots<=1
theorem xnJ {X:QW}(hX:xaJ X=0)(fuel:Int)(c n:Int)(s:QV)(args:List QV)(ts:List QT):AgPost (xa1 (xaL X fuel) 20 ⟨X.heap,0,0,⟨[],[],0,0⟩⟩ c n s args) (xa1 (xaL X fuel) 20 ⟨X.heap,0,0,⟨(xa1 (xaL X fuel) 20 ⟨X.heap,0,0,⟨[],[],0,0⟩⟩ c n s args).1.st.cells,ts,0,0⟩⟩ c n s args):=by
 have h0:TrueS X (⟨[],[],0,0⟩:CSt).cells:=fun x hx=>by cases hx
 obtain⟨q,hq⟩:=xjd hX fuel h0 20 c n s args;have ha:=hq _ h0;generalize xa1 (xaL X fuel) 20 ⟨X.heap,0,0,⟨[],[],0,0⟩⟩ c n s args=a at ha ⊢;have hb:=hq ⟨a.1.st.cells,ts,0,0⟩ ha.tru;generalize xa1 (xaL X fuel) 20 ⟨X.heap,0,0,⟨a.1.st.cells,ts,0,0⟩⟩ c n s args=b at hb ⊢;obtain⟨a1,a2,a3⟩:=xgd X q ⟨[],[],0,0⟩;obtain⟨b1,b2,b3⟩:=xgd X q ⟨a.1.st.cells,ts,0,0⟩;rw[← ha.st] at a1 a2 a3;rw[← hb.st] at b1 b2 b3;simp only at a1 a2 a3 b1 b2 b3;have hk:=(xhk (X:=X) q ⟨[],[],0,0⟩ (fun x hx=>by cases hx)).2.2
 rw[← ha.st] at hk
 have hag:(∀ x∈a.1.st.cells,x.many=false)->b.1.st.nots<=q.countP (nfB X):=fun hm=>by
  have:=(xf9 hm q ⟨a.1.st.cells,ts,0,0⟩ rfl hk).2;rw[← hb.st] at this
  simpa using this
 have hfew:=ha.few;rw[← ha.sz_] at hfew;refine⟨⟨hb.res.trans ha.res.symm,hb.sz_.trans ha.sz_.symm⟩,⟨a2,a3,b2,b3⟩,by omega,by omega,fun hm h10=>?_,fun hm=>?_⟩
 ·have h1:=hag hm;rw[ha.good h10] at h1
  simp at h1
  omega
 ·have h1:=hag hm;have h2:=ha.bad
  omega
set_option maxRecDepth 8000
def xpy (cs:List QC)(s:QS):Option QI:=
 if (xaw cs s.cls s.name).1=s.cls/\0<=s.cls/\0<=s.at' then (xaO cs s.cls (xaw cs s.cls s.name).2).bind fun m=>m.code[s.at'.toNat]? else none
def xpq (cs:List QC)(s:QS)(y:QL):Bool:=
 match xpy cs s with
 | none=>false
 | some x=>decide (0<=(xaw cs y.cls x.name).2) && decide ((xaw cs y.cls x.name).1=y.found)
def xrq (X:QW)(x:QE):Bool:=x.lz.all fun y=>decide (x.ez≠X.ez) || xpq X.cz x.site y
def xpn (X:QW)(l:List QE):Bool:=l.all (xrq X)
theorem xpZ {xs:List QM}{name:ByteArray}(h:0<=xcu xs name):∃ m,xs[(xcu xs name).toNat]?=some m/\m.name=name:=by
 unfold xcu xbt at h ⊢
 cases hf:xs.findIdx? (fun m=>eqN m.name name) with
 | none=>rw[hf] at h;simp at h
 | some i=>
  rw[List.findIdx?_eq_some_iff_getElem] at hf;obtain⟨h1,h2,-⟩:=hf
  exact⟨xs[i],by simp[h1],(xmV _ _).1 h2⟩
theorem xpJ (cs:List QC)(c:Int)(nm:ByteArray):xaw cs c nm=(-1,-1)\/∃ (q:Nat) (x:QC),cs[q]?=some x/\0<=xcu x.mz nm/\xaw cs c nm=((q:Int),xcu x.mz nm):=by
 rw[xeo c]
 rcases xed (xs:=cs) (name:=nm) (l:=xde cs (cs.length+1) c) with he | ⟨k,hk,h1,he⟩
 ·exact Or.inl he
 ·obtain⟨i,hi,hik⟩:=List.mem_iff_getElem.1 hk;obtain⟨q,x,e,hx⟩:=xdS _ _ i _ (by rw[List.getElem?_eq_getElem hi])
  rw[hik] at e;subst e;have hm:xbD cs (q:Int)=x.mz:=by unfold xbD;rw[xfp,hx];rfl
  rw[hm] at h1 he
  exact Or.inr ⟨q,x,hx,h1,he⟩
theorem xpx (cs:List QC)(c:Int)(nm:ByteArray):(0<=(xaw cs c nm).1 ↔ 0<=(xaw cs c nm).2)/\(xaw cs c nm).1<cs.length:=by
 rcases xpJ cs c nm with e | ⟨q,x,hx,h1,e⟩
 ·rw[e];exact⟨by simp,by simp;omega⟩
 ·have:=xae hx;rw[e]
  exact⟨⟨fun _=>h1,fun _=>by simp⟩,by simp;omega⟩
theorem xqO {cs:List QC}{s:QS}{x:QI}(h:xpy cs s=some x):∃ n m,xaO cs s.cls n=some m/\m.name=s.name/\∃ k:Nat,s.at'=(k:Int)/\m.code[k]?=some x:=by
 unfold xpy at h
 split at h
 ·rename_i hc;obtain⟨c1,c2,c3⟩:=hc;obtain⟨k,hk⟩:∃ k:Nat,s.at'=(k:Int):=⟨s.at'.toNat,by omega⟩
  rw[hk] at h;simp only[Int.toNat_natCast] at h
  cases hm:xaO cs s.cls (xaw cs s.cls s.name).2 with
  | none=>rw[hm] at h;cases h
  | some m=>
   rw[hm] at h;refine⟨_,m,hm,?_,k,hk,h⟩
   rcases xpJ cs s.cls s.name with e | ⟨q,y,hy,h1,e⟩
   ·rw[e] at c1;simp at c1;omega
   ·obtain⟨m',e1,e2⟩:=xpZ h1;rw[e] at hm c1;simp only at c1;unfold xaO at hm;rw[← c1,xfp,hy] at hm;simp only[Option.bind_some,if_pos h1] at hm;rw[e1] at hm
    cases hm
    exact e2
 ·cases h
def InS (X:QW)(l:List QE):Prop:=∀ x∈l,x.ez=X.ez->∀ y∈x.lz,y.found<X.cz.length
theorem xqr {X:QW}(hX:xaJ X=0){l:List QE}(h:xpn X l=true):TrueS X l/\InS X l:=by
 have key:∀ x∈l,x.ez=X.ez->∀ y∈x.lz,∃ i,xpy X.cz x.site=some i/\0<=(xaw X.cz y.cls i.name).2/\(xaw X.cz y.cls i.name).1=y.found:=by
  intro x hx he y hy;have h1:=List.all_eq_true.1 (List.all_eq_true.1 h x hx) y hy;simp only[he,ne_eq,not_true_eq_false,decide_false,Bool.false_or] at h1;unfold xpq at h1
  cases hc:xpy X.cz x.site with
  | none=>rw[hc] at h1;cases h1
  | some i=>
   rw[hc] at h1;simp only[Bool.and_eq_true,decide_eq_true_eq] at h1
   exact⟨i,rfl,h1.1,h1.2⟩
 refine⟨fun x hx he y hy nm hs=>?_,fun x hx he y hy=>?_⟩
 ·obtain⟨i,h1,h2,h3⟩:=key x hx he y hy;obtain⟨n,m,e1,e2,k,e3,e4⟩:=xqO h1;obtain⟨n',mt',k',x',g1,g2,g3,g4,-,rfl⟩:=hs;obtain rfl:m=mt':=xhw hX e1 g1 (by rw[e2,g2])
  obtain rfl:k=k':=by omega
  rw[e4] at g4
  cases g4
  rw[← h3]
  exact xh2 X.cz y.cls i.name ((xpx _ _ _).1.2 h2)
 ·obtain⟨i,h1,h2,h3⟩:=key x hx he y hy;rw[← h3]
  exact (xpx _ _ _).2
def xpv (X:QW)(st:CSt)(s:QS)(c:Int)(nm:ByteArray):CSt:=
 if 0<=xft st.cells s X.ez c then ⟨st.cells,xc1 st.ts s c,st.hits+1,st.nots⟩
 else ⟨if 0<=(xaw X.cz c nm).2 then xcX st.cells s X.ez ⟨c,(xaw X.cz c nm).1⟩ else st.cells,xc1 st.ts s c,st.hits,st.nots+1⟩
theorem InS.look {X:QW}{st:CSt}(h:InS X st.cells)(s:QS)(c:Int)(nm:ByteArray):(xcb X st s c nm).1=xpv X st s c nm/\InS X (xpv X st s c nm).cells:=by
 have e:(xcb X st s c nm).1=xpv X st s c nm:=by
  unfold xcb xpv xa2
  by_cases h0:0<=xft st.cells s X.ez c
  ·obtain⟨x,hx,hs,he,y,hy,h1,h2⟩:=xlF h0;have h3:=h x hx he y hy;rw[h2] at h3;rw[if_pos (by simp[xcN];omega),if_pos h0]
   rfl
  ·rw[if_neg (by simp[xcN];omega),if_neg h0]
   have h2:=(xpx X.cz c nm).1
   by_cases hf:(xaw X.cz c nm).1<0
   ·have h3:¬ 0<=(xaw X.cz c nm).2:=by omega
    rw[if_pos hf,if_neg h3];rfl
   ·have h3:0<=(xaw X.cz c nm).2:=by omega
    rw[if_neg hf,if_pos h3];rfl
 refine⟨e,?_⟩;unfold xpv
 split
 ·exact h
 ·dsimp only
  split
  ·intro z hz he u hu
   rcases xhN _ _ _ _ z hz with h' | ⟨h1,h2,h3⟩
   ·exact h z h' he u hu
   ·rcases h3 u hu with rfl | ⟨x,hx,e1,e2,hu'⟩
    ·exact (xpx _ _ _).2
    ·exact h x hx e2 u hu'
  ·exact h
def xqa (X:QW)(st:CSt)(q:List Ask):CSt:=q.foldl (fun st a=>xpv X st a.1 a.2.1 a.2.2) st
theorem xq5 {X:QW}:∀ (q:List Ask) (st:CSt),InS X st.cells->xcB X st q=xqa X st q
 | [],st,h=>rfl
 | a :: q,st,h=>by
  obtain⟨h1,h2⟩:=h.look a.1 a.2.1 a.2.2
  show xcB X (xcb X st a.1 a.2.1 a.2.2).1 q=xqa X (xpv X st a.1 a.2.1 a.2.2) q
  rw[h1]
  exact xq5 q _ h2
theorem xpA {P Q:Nat->Prop}(xs:List QL)(va vb:Value)(w:World)(ha:xbI P w va xs)(hb:xbI Q w vb xs):Calls Tryz.prog 30 #[va,vb] w fun e w'=>e=.returned (.bool true)/\∃ n,w'=w.drewN n:=by
 obtain⟨ad,cap,rfl,hl,hcap,-,hrow⟩:=ha;obtain⟨ad',cap',rfl,hl',hcap',-,hrow'⟩:=hb;unfold maxLen at hcap hcap';go_enter Tryz.func30,Tryz.ntmps30;go_wp2
 go_loopg [13] xs.length (fun g c wr=>∃ j:Nat,j+g=xs.length/\c=.int .i64 j/\∃ n,wr=w.drewN n)
 case atStart=>exact⟨0,by omega,rfl,0,rfl⟩
 case round=>
  obtain⟨j,hj,rfl,nn,rfl⟩:=hrel
  by_cases hlt:j<xs.length
  ·obtain⟨b,o,rfl,-,q0,q1⟩:=hrow j xs[j] (by simp[hlt])
   obtain⟨b',o',rfl,-,k0,k1⟩:=hrow' j xs[j] (by simp[hlt])
   generalize xs[j]=x at *;simp only[Nat.add_zero] at q0 k0;have hj1:(j:Int)<(xs.length:Int):=by omega
   have hj0:(0:Int)<=(j:Int):=by omega
   clear hrow hrow';go_wp2
   go_quiet (fail)
   go_wp2
   go_roundg (gk-1)
   case measure=>omega
   case rel=>exact⟨j+1,by omega,by go_num,_,rfl⟩
  ·go_wp2
   go_ret
   exact⟨rfl,_,rfl⟩
theorem xpH {P Q:Nat->Prop}(xs:List QT)(va vb:Value)(w:World)(ha:xbc P w va xs)(hb:xbc Q w vb xs):Calls Tryz.prog 11 #[va,vb] w fun e w'=>e=.returned (.bool true)/\Below w.heap.size w w':=by
 obtain⟨ad,cap,rfl,hl,hcap,-,hrow⟩:=ha;obtain⟨ad',cap',rfl,hl',hcap',-,hrow'⟩:=hb;unfold maxLen at hcap hcap';go_enter Tryz.func11,Tryz.ntmps11;go_wp2
 go_loopg [13] xs.length (fun g c wr=>∃ j:Nat,j+g=xs.length/\c=.int .i64 j/\Below w.heap.size w wr)
 case atStart=>exact⟨0,by omega,rfl,qzL _ _⟩
 case round=>
  obtain⟨j,hj,rfl,hbel⟩:=hrel
  by_cases hlt:j<xs.length
  ·obtain⟨b,o,rfl,-,q0,q1,q2,lv,q3,ql⟩:=hrow j xs[j] (by simp[hlt])
   obtain⟨b',o',rfl,-,k0,k1,k2,lv',k3,kl⟩:=hrow' j xs[j] (by simp[hlt])
   generalize xs[j]=x at *;simp only[Nat.add_zero] at q0 k0;replace q0:=qzA hbel q0;replace q1:=qzA hbel q1;replace q2:=qzA hbel q2;replace q3:=qzA hbel q3;replace ql:=ql.later xbq hbel;replace k0:=qzA hbel k0;replace k1:=qzA hbel k1;replace k2:=qzA hbel k2;replace k3:=qzA hbel k3;replace kl:=kl.later xbq hbel;have he:=fun w=>neqS x.site x.site w
   rw[(xcf x.site x.site).2 rfl] at he;have hj1:(j:Int)<(xs.length:Int):=by omega
   have hj0:(0:Int)<=(j:Int):=by omega
   clear hrow hrow';go_wp2
   go_quiet (first | (go_at_call 30;refine Calls.quiet_of (xpA x.lz _ _ _ (ql.later xbq (below_drewN (qzL _ _) _)) (kl.later xbq (below_drewN (qzL _ _) _)))))
   go_wp2
   go_roundg (gk-1)
   case measure=>omega
   case rel=>exact⟨j+1,by omega,by go_num,xah hbel (below_drewN (qzL _ _) _)⟩
  ·go_wp2
   go_ret
   exact⟨rfl,hbel⟩
theorem xp1 {P Q:Nat->Prop}(xs:List QE)(va vb:Value)(w:World)(ha:xbk P w va xs)(hb:xbk Q w vb xs):Calls Tryz.prog 10 #[va,vb] w fun e w'=>e=.returned (.bool true)/\Below w.heap.size w w':=by
 obtain⟨ad,cap,rfl,hl,hcap,-,hrow⟩:=ha;obtain⟨ad',cap',rfl,hl',hcap',-,hrow'⟩:=hb;unfold maxLen at hcap hcap';go_enter Tryz.func10,Tryz.ntmps10;go_wp2
 go_loopg [13] xs.length (fun g c wr=>∃ j:Nat,j+g=xs.length/\c=.int .i64 j/\Below w.heap.size w wr)
 case atStart=>exact⟨0,by omega,rfl,qzL _ _⟩
 case round=>
  obtain⟨j,hj,rfl,hbel⟩:=hrel
  by_cases hlt:j<xs.length
  ·obtain⟨b,o,rfl,-,q0,q1,q2,q3,q4,lv,q5,ql⟩:=hrow j xs[j] (by simp[hlt])
   obtain⟨b',o',rfl,-,k0,k1,k2,k3,k4,lv',k5,kl⟩:=hrow' j xs[j] (by simp[hlt])
   generalize xs[j]=x at *;simp only[Nat.add_zero] at q0 k0;replace q0:=qzA hbel q0;replace q1:=qzA hbel q1;replace q2:=qzA hbel q2;replace q3:=qzA hbel q3;replace q4:=qzA hbel q4;replace q5:=qzA hbel q5;replace ql:=ql.later xbq hbel;replace k0:=qzA hbel k0;replace k1:=qzA hbel k1;replace k2:=qzA hbel k2;replace k3:=qzA hbel k3;replace k4:=qzA hbel k4;replace k5:=qzA hbel k5;replace kl:=kl.later xbq hbel;have he:=fun w=>neqS x.site x.site w
   rw[(xcf x.site x.site).2 rfl] at he;have hj1:(j:Int)<(xs.length:Int):=by omega
   have hj0:(0:Int)<=(j:Int):=by omega
   clear hrow hrow';go_wp2
   go_quiet (first | (go_at_call 30;refine Calls.quiet_of (xpA x.lz _ _ _ (ql.later xbq (below_drewN (qzL _ _) _)) (kl.later xbq (below_drewN (qzL _ _) _)))))
   go_wp2
   go_roundg (gk-1)
   case measure=>omega
   case rel=>exact⟨j+1,by omega,by go_num,xah hbel (below_drewN (qzL _ _) _)⟩
  ·go_wp2
   go_ret
   exact⟨rfl,hbel⟩
theorem xqG (x:QE)(r:List QE)(s:QS)(ep c:Int):xft (x :: r) s ep c=if eqS x.site s then (if x.ez=ep then xen x.lz c else -1) else xft r s ep c:=by
 unfold xft
 by_cases h:eqS x.site s=true<;>simp[h]
theorem xqs (y:QL)(r:List QL)(c:Int):xen (y :: r) c=if y.cls=c then y.found else xen r c:=by
 unfold xen
 by_cases h:y.cls=c
 ·simp[h]
 ·have hb:(y.cls == c)=false:=by simpa using h
  simp[h,hb]
theorem xqH {α:Type}{xs:List α}{j:Nat}{x:α}(h:xs[j]?=some x):xs.drop j=x :: xs.drop (j+1):=by
 have hj:=xae h;rw[List.drop_eq_getElem_cons hj];rw[List.getElem?_eq_getElem hj] at h
 cases h
 rfl
theorem xqZ {P:Nat->Prop}(xs:List QE)(v:Value)(s:QS)(ep c:Int)(w:World)(hh:xbk P w v xs):Calls Tryz.prog 26 #[v,SV s,.int .i64 ep,.int .i64 c] w fun e w'=>e=.returned (.int .i64 (xft xs s ep c))/\Below w.heap.size w w':=by
 obtain⟨ad,cap,rfl,hl,hcap,-,hrow⟩:=hh;unfold maxLen at hcap;have hs0:=xeS w s 67;have hb0:=xaj w (.cells #[.int .i64 s.cls,.string s.name,.int .i64 s.at'] 67);go_enter Tryz.func26,Tryz.ntmps26;go_wp2
 go_loopg [15] xs.length (fun g i wr=>∃ j:Nat,j+g=xs.length/\i=.int .i64 j/\xft xs s ep c=xft (xs.drop j) s ep c/\Below w.heap.size w wr/\SiteAt wr w.heap.size s)
 case atStart=>exact⟨0,by omega,rfl,rfl,hb0,hs0⟩
 case round=>
  obtain⟨j,hj,rfl,hE,hbel,hsj⟩:=hrel;have HE:Hid (xft xs s ep c=xft (xs.drop j) s ep c):=hE;clear hs0 hb0 hE
  by_cases hlt:j<xs.length
  ·obtain⟨b,o,rfl,-,q0,q1,q2,q3,q4,lv,q5,ql⟩:=hrow j xs[j] (by simp[hlt])
   have hxj:Hid (xs[j]?=some xs[j]):=by show _=_;simp[hlt]
   generalize xs[j]=x at *;have HD:Hid (xft (xs.drop j) s ep c=if eqS x.site s then (if x.ez=ep then xen x.lz c else -1) else xft (xs.drop (j+1)) s ep c):=by show _=_;rw[xqH hxj.out,xqG]
   simp only[Nat.add_zero] at q0;have v0:=qzA hbel q0;have v1:=qzA hbel q1;have v2:=qzA hbel q2;have v3:=qzA hbel q3;have v4:=qzA hbel q4;have v5:=qzA hbel q5;have hsl:=ql.later xbq hbel;clear q0 q1 q2 q3 q4 q5 ql hrow;obtain⟨ad2,cap2,rfl,hl2,hcap2,-,-⟩:=id hsl;unfold maxLen at hcap2;obtain⟨s0,s1,s2⟩:=id hsj;have s0':=fun y=>qzA (xaj wr y) s0
   have s1':=fun y=>qzA (xaj wr y) s1
   have s2':=fun y=>qzA (xaj wr y) s2
   have he:=fun w=>xrt x.site s w
   clear s0 s1 s2;have hj1:(j:Int)<(xs.length:Int):=by omega
   have hj0:(0:Int)<=(j:Int):=by omega
   have hbx:=xaj wr (Obj.cells #[Value.int .i64 x.site.cls,Value.string x.site.name,Value.int .i64 x.site.at',Value.int .i64 x.ez,Value.bool x.many,Value.slice ad2 x.lz.length cap2] 70);have hbxE:=xgx wr x (Value.slice ad2 x.lz.length cap2) 70;have hlx:=hsl.later xbq hbx;have hbx':=xah hbel hbx
   by_cases hp:eqS x.site s=true
   ·have HG:Hid (xft xs s ep c=if x.ez=ep then xen x.lz c else -1):=by show _=_;rw[HE.out,HD.out,if_pos hp]
    rw[hp] at he;clear hp HE HD;go_wp2;generalize (wr.alloc (Obj.cells #[Value.int .i64 x.site.cls,Value.string x.site.name,Value.int .i64 x.site.at',Value.int .i64 x.ez,Value.bool x.many,Value.slice ad2 x.lz.length cap2] 70))=W1 at *;clear hbx he s0' s1' s2' v0 v1 v2 v3 v4 v5 hbel hsj hsl;generalize wr.heap.size=TB at *
    go_loopg [26] x.lz.length (fun g i ws=>∃ q:Nat,q+g=x.lz.length/\i=.int .i64 q/\(x.ez=ep->xen x.lz c=xen (x.lz.drop q) c)/\Below w.heap.size w ws/\BoxE ws TB x (.slice ad2 x.lz.length cap2)/\xbI P ws (.slice ad2 x.lz.length cap2) x.lz)
    case atStart=>exact⟨0,by omega,rfl,fun _=>rfl,hbx',hbxE,hlx⟩
    case round=>
     obtain⟨q,hq,rfl,hL,hbq,hbq2,hlq⟩:=hrel;have HL:Hid (x.ez=ep->xen x.lz c=xen (x.lz.drop q) c):=hL;clear hbx' hlx hL hbxE
     by_cases hltq:q<x.lz.length
     ·obtain⟨ad3,cap3,e3,-,-,-,hrow3⟩:=id hlq;simp only[Value.slice.injEq] at e3;obtain⟨rfl,-,-⟩:=e3;obtain⟨b3,o3,rfl,-,y0,y1⟩:=hrow3 q x.lz[q] (by simp[hltq])
      have hyq:Hid (x.lz[q]?=some x.lz[q]):=by show _=_;simp[hltq]
      generalize x.lz[q]=y at *;simp only[Nat.add_zero] at y0;have HD:Hid (xen (x.lz.drop q) c=if y.cls=c then y.found else xen (x.lz.drop (q+1)) c):=by show _=_;rw[xqH hyq.out,xqs]
      have hq1:(q:Int)<(x.lz.length:Int):=by omega
      have hq0:(0:Int)<=(q:Int):=by omega
      have hby:=xaj wr (Obj.cells #[Value.int .i64 y.cls,Value.int .i64 y.found] 72);obtain⟨c0,c1,c2,c3,c4,c5⟩:=hbq2.later hby;clear hrow3
      by_cases hA:x.ez=ep
      ·have hdA:(x.ez == ep)=true:=by simpa using hA
       have HA:Hid (x.ez=ep):=hA;clear hA
       by_cases hB:y.cls=c
       ·have hdB:(y.cls == c)=true:=by simpa using hB
        have HR:Hid (xft xs s ep c=y.found):=by show _=_;rw[HG.out,if_pos HA.out,HL.out HA.out,HD.out,if_pos hB]
        clear hB;go_wp2
        go_ret
        exact⟨xak HR.out.symm,xah hbq hby⟩
       ·have hdB:(y.cls == c)=false:=by simpa using hB
        have HR:Hid (xen (x.lz.drop q) c=xen (x.lz.drop (q+1)) c):=by show _=_;rw[HD.out,if_neg hB]
        go_wp2
        go_roundg (x.lz.length-(q+1))
        case measure=>omega
        case rel=>exact⟨q+1,by omega,by go_num,fun h=>(HL.out h).trans HR.out,xah hbq hby,hbq2.later hby,hlq.later xbq hby⟩
      ·have hdA:(x.ez == ep)=false:=by simpa using hA
       go_wp2
       go_roundg (x.lz.length-(q+1))
       case measure=>omega
       case rel=>exact⟨q+1,by omega,by go_num,fun h=>absurd h hA,xah hbq hby,hbq2.later hby,hlq.later xbq hby⟩
     ·have HR:Hid (xft xs s ep c=-1):=by
       show _=_
       rw[HG.out]
       by_cases hA:x.ez=ep
       ·rw[if_pos hA,HL.out hA,List.drop_eq_nil_of_le (by omega)];rfl
       ·rw[if_neg hA]
      go_wp2
      go_ret
      exact⟨xak HR.out.symm,hbq⟩
   ·have hp':eqS x.site s=false:=by simpa using hp
    have HG:Hid (xft xs s ep c=xft (xs.drop (j+1)) s ep c):=by show _=_;rw[HE.out,HD.out,if_neg hp]
    rw[hp'] at he;clear hp hp' HE HD;go_wp2
    go_roundg (gk-1)
    case measure=>omega
    case rel=>exact⟨j+1,by omega,by go_num,HG.out,hbx',hsj.later hbx⟩
  ·have HR:Hid (xft xs s ep c=-1):=by show _=_;rw[HE.out,List.drop_eq_nil_of_le (by omega)];rfl
   go_wp2
   go_ret
   exact⟨xak HR.out.symm,hbel⟩
def xal:List QV->List Value
 | []=>[]
 | v :: r=>.int .i64 v.k :: .int .i64 v.n :: xal r
theorem xbm:∀ q,(xal q).length=q.length*2
 | []=>rfl
 | p :: q=>by simp[xal,xbm q];omega
theorem xck:∀ q r,xal (q++r)=xal q++xal r
 | [],r=>rfl
 | p :: q,r=>by simp[xal,xck q r]
theorem xbO:∀ {q:List QV} {i:Nat} {x:QV},q[i]?=some x->(xal q)[i*2]?=some (.int .i64 x.k)/\(xal q)[i*2+1]?=some (.int .i64 x.n)
 | [],i,x,h=>by simp at h
 | p :: q,0,x,h=>by simp at h;subst h;exact⟨rfl,rfl⟩
 | p :: q,i+1,x,h=>by
  have:=xbO (q:=q) (i:=i) (x:=x) (by simpa using h)
  rw[show (i+1)*2=i*2+1+1 by omega]
  exact this
theorem xef:∀ (q:List QV) (i:Nat) (x:QV),((xal q).set (i*2) (.int .i64 x.k)).set (i*2+1) (.int .i64 x.n)=xal (q.set i x)
 | [],i,x=>by simp[xal]
 | p :: q,0,x=>by simp[xal]
 | p :: q,i+1,x=>by
  rw[show (i+1)*2=i*2+1+1 by omega]
  simp only[xal,List.set_cons_succ];rw[xef q i x]
theorem xdG:∀ (q:List QV) (n:Nat),(xal q).take (n*2)=xal (q.take n)
 | [],n=>by simp[xal]
 | p :: q,0=>by simp[xal]
 | p :: q,n+1=>by
  rw[show (n+1)*2=n*2+1+1 by omega]
  simp only[xal,List.take_succ_cons];rw[xdG q n]
theorem xe8:∀ (q:List QV) (n:Nat),(xal q).drop (n*2)=xal (q.drop n)
 | [],n=>by simp[xal]
 | p :: q,0=>by simp[xal]
 | p :: q,n+1=>by
  rw[show (n+1)*2=n*2+1+1 by omega]
  simp only[xal,List.drop_succ_cons]
  exact xe8 q n
theorem xfM:∀ n,xal (List.replicate n xaU)=List.replicate (n*2) (.int .i64 0)
 | 0=>rfl
 | n+1=>by
  rw[show (n+1)*2=n*2+1+1 by omega]
  simp only[List.replicate_succ,xal];rw[xfM n]
theorem xfV:∀ (q:List QV),∀ u∈xal q,u.oneCell'=true
 | [],u,h=>by simp[xal] at h
 | p :: q,u,h=>by
  simp only[xal,List.mem_cons] at h
  rcases h with rfl | rfl | h
  ·rfl
  ·rfl
  ·exact xfV q u h
theorem xco {E:Unit}:∀ {cs:List Value} {xs:List QV} {P:Nat->Prop} {w:World},Cells xmM 2 P w cs xs->cs=xal xs:=fun {cs xs P w} h=>by
 obtain⟨h1,h2⟩:=h
 apply List.ext_getElem?
 intro j
 by_cases hj:j<xs.length*2
 ·have hi:j / 2<xs.length:=by omega
  have hx:xs[j / 2]?=some xs[j / 2]:=by simp[hi]
  obtain⟨e1,e2⟩:=h2 _ _ hx;obtain⟨d1,d2⟩:=xbO hx
  rcases Nat.mod_two_eq_zero_or_one j with hm | hm
  ·have:j=j / 2*2:=by omega
   rw[this,d1];simpa using e1
  ·have:j=j / 2*2+1:=by omega
   rw[this,d2];simpa using e2
 ·rw[List.getElem?_eq_none (by omega),List.getElem?_eq_none (by rw[xbm];omega)]
structure Kp (S:Nat->Prop)(T:Nat->Nat)(w w':World):Prop where
 os:w'.os=w.os
 tape:w'.tape=w.tape
 output:w'.output=w.output
 size:w.heap.size<=w'.heap.size
 blk:∀ b,b<w.heap.size->¬ S (T b)->w'.heap[b]?=w.heap[b]?
def Ext (T T':Nat->Nat)(w:World):Prop:=∀ b,b<w.heap.size->T' b=T b
theorem Ext.refl (T:Nat->Nat)(w:World):Ext T T w:=fun _ _=>rfl
theorem Ext.trans {T T' T'':Nat->Nat}{w w':World}(h:Ext T T' w)(hs:w.heap.size<=w'.heap.size)(k:Ext T' T'' w'):Ext T T'' w:=fun b hb=>(k b (by omega)).trans (h b hb)
theorem Kp.refl (S:Nat->Prop)(T:Nat->Nat)(w:World):Kp S T w w:=⟨rfl,rfl,rfl,qzC _,fun _ _ _=>rfl⟩
theorem Kp.of_below {S:Nat->Prop}{T:Nat->Nat}{w w':World}(h:Below w.heap.size w w'):Kp S T w w':=⟨h.os,h.tape,h.output,h.size,fun b hb _=>h.block b hb⟩
theorem Kp.trans {S:Nat->Prop}{T T':Nat->Nat}{w w' w'':World}(h:Kp S T w w')(e:Ext T T' w)(k:Kp S T' w' w''):Kp S T w w'':=
 ⟨k.os.trans h.os,k.tape.trans h.tape,k.output.trans h.output,qzD h.size k.size,fun b hb hs=>(k.blk b (qzE hb h.size) (by rw[e b hb];exact hs)).trans (h.blk b hb hs)⟩
theorem Kp.on {S:Nat->Prop}{T:Nat->Nat}{w w' w'':World}(h:Kp S T w w')(k:Below w'.heap.size w' w''):Kp S T w w'':=h.trans (.refl _ _) (.of_below k)
theorem Kp.drew {S:Nat->Prop}{T:Nat->Nat}{w w':World}(h:Kp S T w w'):Kp S T w w'.drew:=⟨h.os,h.tape,h.output,h.size,h.blk⟩
theorem Kp.mono {S S':Nat->Prop}{T:Nat->Nat}{w w':World}(h:Kp S T w w')(hs:∀ t,S t->S' t):Kp S' T w w':=⟨h.os,h.tape,h.output,h.size,fun b hb n=>h.blk b hb fun k=>n (hs _ k)⟩
theorem Kp.tags {S:Nat->Prop}{T T':Nat->Nat}{w w':World}(h:Kp S T w w')(e:Ext T T' w):Kp S T' w w':=⟨h.os,h.tape,h.output,h.size,fun b hb n=>h.blk b hb (by rw[← e b hb];exact n)⟩
theorem Kp.below {S:Nat->Prop}{T:Nat->Nat}{w w':World}(h:Kp S T w w'){lo:Nat}(hl:∀ b,b<lo->¬ S (T b))(hs:lo<=w.heap.size):Below lo w w':=⟨h.os,h.tape,h.output,h.size,fun b hb=>h.blk b (by omega) (hl b hb)⟩
theorem Kp.set {S:Nat->Prop}{T:Nat->Nat}{w w':World}(h:Kp S T w w'){b:Nat}(hb:b<w.heap.size->S (T b))(o:Nat)(v:Value):Kp S T w (w'.setCell ⟨b,o,none⟩ v):=by
 have k:=qzL w'.heap.size w';have hd:Below 0 w' (w'.setCell ⟨b,o,none⟩ v):=(qzL 0 w').setCell (Nat.zero_le _) _;refine⟨hd.os.trans h.os,hd.tape.trans h.tape,hd.output.trans h.output,qzD h.size hd.size,fun c hc n=>?_⟩
 rw[xab (fun e=>n (by rw[e];exact hb (by omega)))]
 exact h.blk c hc n
theorem Kp.held {S:Nat->Prop}{T:Nat->Nat}{w w':World}(h:Kp S T w w'){b:Nat}{o:Obj}(hb:w.heap[b]?=some o)(hs:¬ S (T b)):w'.heap[b]?=some o:=by
 rw[h.blk b (xaf hb) hs];exact hb
theorem Kp.cell {S:Nat->Prop}{T:Nat->Nat}{w w':World}(h:Kp S T w w'){b o:Nat}{v:Value}(hb:w.cell? ⟨b,o,none⟩=some v)(hs:¬ S (T b)):w'.cell? ⟨b,o,none⟩=some v:=by
 have hl:=World.block_lt_of_cell? w ⟨b,o,none⟩ hb;unfold World.cell? at hb ⊢;rw[h.blk b hl hs]
 exact hb
abbrev Fx (T:Nat->Nat)(w:World):Nat->Prop:=fun b=>b<w.heap.size/\T b=0
abbrev Hx (T:Nat->Nat)(w:World):Nat->Prop:=fun b=>b<w.heap.size/\T b=2
theorem IsRow.fx {α:Type}{E:Lay α}{sz bytes:Nat}{t:Nat}{T T':Nat->Nat}{S:Nat->Prop}{w w':World}{v:Value}{xs:List α}(h:IsRow E sz bytes (fun b=>b<w.heap.size/\T b=t) w v xs)(G:Good E sz)(e:Ext T T' w)(k:Kp S T w w')(h0:¬ S t):IsRow E sz bytes (fun b=>b<w'.heap.size/\T' b=t) w' v xs:=
 h.keep G (Keeps.of_block fun b hb hl=>k.blk b hl (by rw[hb.2];exact h0)) fun b hb=>⟨qzE hb.1 k.size,by rw[e b hb.1];exact hb.2⟩
def xau (T:Nat->Nat)(w:World)(t:Nat):Nat->Nat:=fun b=>if b<w.heap.size then T b else t
theorem xao (T:Nat->Nat)(w:World)(t:Nat):Ext T (xau T w t) w:=fun b hb=>by simp[xau,hb]
theorem xav {T:Nat->Nat}{w:World}{t b:Nat}(h:w.heap.size<=b):xau T w t b=t:=by simp[xau];omega
def xhE (T:Nat->Nat)(g t:Nat):Nat->Nat:=fun b=>if b=g then t else T b
theorem xd5 {T:Nat->Nat}{w:World}{g t:Nat}(h:w.heap.size<=g):Ext T (xhE T g t) w:=fun b hb=>by simp[xhE];omega
theorem xdv (T:Nat->Nat)(g t:Nat):xhE T g t g=t:=by simp[xhE]
structure HeapSt (T:Nat->Nat)(w:World)(hv:Value)(g:Nat)(s:Nat->Nat)(xs:List QO):Prop where
 form:∃ cap,hv=.slice (some ⟨g,0,none⟩) xs.length cap/\xs.length<=cap/\cap<=maxLen
 len:xs.length*32<=140737488351232
 there:g<w.heap.size
 tg:T g=2
 obj:∀ i x,xs[i]?=some x->w.cell? ⟨g,i*2,none⟩=some (.int .i64 x.cls)/\w.cell? ⟨g,i*2+1,none⟩=some (.slice (some ⟨s i,0,none⟩) x.slots.length x.slots.length)/\w.heap[s i]?=some (.cells (xal x.slots).toArray 27 (0,0))/\T (s i)=2/\s i≠g/\x.slots.length*16<=140737488351232
 inj:∀ i j,i<xs.length->j<xs.length->s i=s j->i=j
theorem xeL {w:World}{g:Nat}{vs:List QV}{t:TypeId}(h:w.heap[g]?=some (.cells (xal vs).toArray t (0,0))){i:Nat}{x:QV}(hx:vs[i]?=some x):w.cell? ⟨g,i*2,none⟩=some (.int .i64 x.k)/\w.cell? ⟨g,i*2+1,none⟩=some (.int .i64 x.n):=by
 rw[qzB h,qzB h];have:=xbO hx
 simpa using this
theorem xgp {w:World}{g:Nat}{vs:List QV}{t:TypeId}{P:Nat->Prop}(h:w.heap[g]?=some (.cells (xal vs).toArray t (0,0)))(hP:P g)(hb:vs.length*16<=140737488351232):xaB P w (.slice (some ⟨g,0,none⟩) vs.length vs.length) vs:=by
 refine⟨_,_,rfl,qzC _,by unfold maxLen;omega,hb,fun i x hx=>⟨g,0,rfl,hP,?_⟩⟩
 have:=xeL h hx;simp only[Nat.zero_add]
 exact⟨by simpa using this.1,this.2⟩
theorem HeapSt.heap {T:Nat->Nat}{w:World}{hv:Value}{g:Nat}{s:Nat->Nat}{xs:List QO}(h:HeapSt T w hv g s xs):xaC (Hx T w) w hv xs:=by
 obtain⟨cap,rfl,h1,h2⟩:=h.form;refine⟨_,_,rfl,h1,h2,h.len,fun i x hx=>⟨g,0,rfl,⟨h.there,h.tg⟩,?_⟩⟩
 obtain⟨e1,e2,e3,e4,e5,e6⟩:=h.obj i x hx;simp only[Nat.zero_add]
 exact⟨by simpa using e1,_,e2,xgp e3 ⟨xaf e3,e4⟩ e6⟩
theorem HeapSt.keep {T T':Nat->Nat}{S:Nat->Prop}{w w':World}{hv:Value}{g:Nat}{s:Nat->Nat}{xs:List QO}(h:HeapSt T w hv g s xs)(e:Ext T T' w)(k:Kp S T w w')(h2:¬ S 2):HeapSt T' w' hv g s xs:=by
 refine⟨h.form,h.len,qzE h.there k.size,by rw[e g h.there];exact h.tg,fun i x hx=>?_,h.inj⟩
 obtain⟨e1,e2,e3,e4,e5,e6⟩:=h.obj i x hx
 exact⟨k.cell e1 (by rw[h.tg];exact h2),k.cell e2 (by rw[h.tg];exact h2),k.held e3 (by rw[e4];exact h2),by rw[e _ (xaf e3)];exact e4,e5,e6⟩
theorem xiC {w:World}{g:Nat}{vs:List QV}{t:TypeId}(h:w.heap[g]?=some (.cells (xal vs).toArray t (0,0)))(j:Nat)(v:QV):((w.setCell ⟨g,j*2,none⟩ (.int .i64 v.k)).setCell ⟨g,j*2+1,none⟩ (.int .i64 v.n)).heap[g]?=some (.cells (xal (vs.set j v)).toArray t (0,0)):=by
 rw[xad (xad h _),← xef]
 simp
abbrev VV (v:QV):Value:=.agg #[.int .i64 v.k,.int .i64 v.n]
theorem xc0 {P:Nat->Prop}(l:List QV)(lv:Value)(n:Int)(w:World)(h:xaB P w lv l):Calls Tryz.prog 92 #[lv,.int .i64 n] w fun e w'=>e=.returned (VV (xaM l n))/\Below w.heap.size w w':=by
 obtain⟨ad,cap,rfl,hl,hcap,hby,hrow⟩:=h;unfold maxLen at hcap
 by_cases hn:n<0
 ·have HE:Hid (xaM l n=xaU):=by show _=_;unfold xaM;rw[if_pos hn]
  have hn':decide (n<0)=true:=by simpa using hn
  go_enter Tryz.func92,Tryz.ntmps92;go_wp2;refine qzK (v:=VV xaU) ?_ rfl ⟨by rw[HE.out],xaj _ _⟩
  simp[results,Tryz.results92,go_sem]
 ·have hn':decide (n<0)=false:=by simpa using hn
  obtain⟨k,rfl⟩:∃ k:Nat,n=k:=⟨n.toNat,by omega⟩
  by_cases hk:k<l.length
  ·have hx:l[k]?=some l[k]:=by simp[hk]
   have HE:Hid (xaM l k=l[k]):=by show _=_;unfold xaM;rw[if_neg hn];simp[hk]
   generalize l[k]=x at *;obtain⟨b,o,rfl,-,h0,h1⟩:=hrow k x hx;simp only[Nat.add_zero] at h0;have c0:=qzA (xaj w (.cells #[.int .i64 0,.int .i64 0] 27)) h0;have c1:=qzA (xaj w (.cells #[.int .i64 0,.int .i64 0] 27)) h1;have hk1:(k:Int)<(l.length:Int):=by omega
   have hk2:¬ ((l.length:Int)<=(k:Int)):=by omega
   go_enter Tryz.func92,Tryz.ntmps92;go_wp2;refine qzK (v:=VV x) ?_ rfl ⟨by rw[HE.out],xaj _ _⟩
   simp[results,Tryz.results92,go_sem]
  ·have HE:Hid (xaM l k=xaU):=by show _=_;unfold xaM;rw[if_neg hn];simp[hk]
   have hk2:((l.length:Int)<=(k:Int)):=by omega
   go_enter Tryz.func92,Tryz.ntmps92;go_wp2;refine qzK (v:=VV xaU) ?_ rfl ⟨by rw[HE.out],xaj _ _⟩
   simp[results,Tryz.results92,go_sem]
theorem xji (n:Nat):madeCells #[.int .i64 0,.int .i64 0] (n*2)=(xal (List.replicate n xaU)).toArray:=by
 rw[xfM];unfold madeCells
 apply Array.ext
 ·simp
 ·intro i h1 h2
  simp
  rcases Nat.mod_two_eq_zero_or_one i with h | h<;>simp[h]
theorem xeR (n:Int)(w:World):Calls Tryz.prog 93 #[.int .i64 n] w fun e w'=>∃ g,e=.returned (.slice (some ⟨g,0,none⟩) (xaQ n).length (xaQ n).length)/\w'.heap[g]?=some (.cells (xal (xaQ n)).toArray 27 (0,0))/\w.heap.size<=g/\Below w.heap.size w w':=by
 by_cases hn:n<0
 ·have HR:Hid (xaQ n=List.replicate 0 xaU):=by show _=_;unfold xaQ;congr 1;omega
  have hmk:∀ w:World,(Instr.makeSlice 28 (.int .i64 0) (.int .i64 0)).run Tryz.prog w=.ok (.slice (some ⟨w.heap.size,0,none⟩) 0 0) (w.alloc (.cells (madeCells #[.int .i64 0,.int .i64 0] (0*2)) 27)):=xcA 0 (by omega)
  have hn':decide (n<0)=true:=by simpa using hn
  go_enter Tryz.func93,Tryz.ntmps93;go_wp2
  go_ret
  rw[HR.out,List.length_replicate]
  exact⟨_,rfl,by rw[← xji];exact qzJ _ _,qzC _,xaj _ _⟩
 ·obtain⟨m,rfl⟩:∃ m:Nat,n=(m:Int):=⟨n.toNat,by omega⟩
  by_cases hm4:m<=40
  ·have HR:Hid (xaQ m=List.replicate m xaU):=by show _=_;unfold xaQ;congr 1;omega
   have hmk:=xcA m (by omega)
   have hm5:(m:Int)<=40:=by omega
   have hm6:¬ (40<(m:Int)):=by omega
   go_enter Tryz.func93,Tryz.ntmps93;go_wp2
   go_ret
   rw[HR.out,List.length_replicate]
   exact⟨_,rfl,by rw[← xji];exact qzJ _ _,qzC _,xaj _ _⟩
  ·have HR:Hid (xaQ m=List.replicate 40 xaU):=by show _=_;unfold xaQ;congr 1;omega
   have hmk:∀ w:World,(Instr.makeSlice 28 (.int .i64 40) (.int .i64 40)).run Tryz.prog w=.ok (.slice (some ⟨w.heap.size,0,none⟩) 40 40) (w.alloc (.cells (madeCells #[.int .i64 0,.int .i64 0] (40*2)) 27)):=xcA 40 (by omega)
   have hm5:40<(m:Int):=by omega
   go_enter Tryz.func93,Tryz.ntmps93;go_wp2
   go_ret
   rw[HR.out,List.length_replicate]
   exact⟨_,rfl,by rw[← xji];exact qzJ _ _,qzC _,xaj _ _⟩
theorem xeB (l:List QV)(g:Nat)(n:Int)(v:QV)(w:World)(h:w.heap[g]?=some (.cells (xal l).toArray 27 (0,0))):Calls Tryz.prog 104 #[.slice (some ⟨g,0,none⟩) l.length l.length,.int .i64 n,VV v] w fun e w'=>e=.returned (.tuple #[])/\w'.heap[g]?=some (.cells (xal (xaV l n v)).toArray 27 (0,0))/\w.heap.size<w'.heap.size/\∀ (S:Nat->Prop) (T:Nat->Nat),S (T g)->Kp S T w w':=by
 have hgl:=xaf h;have hb1:=xaj w (.cells #[.int .i64 v.k,.int .i64 v.n] 27);have h1:=xac h hb1
 by_cases hn:n<0
 ·have HE:Hid (xaV l n v=l):=by show _=_;unfold xaV;rw[if_pos hn]
  have hn':decide (0<=n)=false:=by simpa using hn
  go_enter Tryz.func104,Tryz.ntmps104;go_wp2;refine bodyPost_end (v:=.tuple #[]) (by simp[results,Tryz.results104,go_sem]) rfl ⟨rfl,by rw[HE.out];exact h1,by simp,fun S T hs=>Kp.of_below (xaj _ _)⟩
 ·obtain⟨k,rfl⟩:∃ k:Nat,n=k:=⟨n.toNat,by omega⟩
  have HE:Hid (xaV l k v=l.set k v):=by show _=_;unfold xaV;rw[if_neg hn];simp
  have hn':decide (0<=(k:Int))=true:=by simp
  by_cases hk:k<l.length
  ·have hk1:(k:Int)<(l.length:Int):=by omega
   obtain⟨c0,c1⟩:=xeL h1 (show l[k]?=some l[k] by simp[hk])
   have f0:∀ o,(w.alloc (.cells #[.int .i64 v.k,.int .i64 v.n] 27)).frozen? ⟨g,o,none⟩=false:=fun o=>by unfold World.frozen?;simp only[h1];simp
   have hset:=xiC h1 k v;have b0:=(xaa w #[.int .i64 v.k,.int .i64 v.n] 27 _ rfl 0);have b1:=(xaa w #[.int .i64 v.k,.int .i64 v.n] 27 _ rfl 1);have HK:Hid (∀ (S:Nat->Prop) (T:Nat->Nat),Kp S T w (w.alloc (.cells #[.int .i64 v.k,.int .i64 v.n] 27))):=fun S T=>Kp.of_below (xaj _ _)
   have hz:w.heap.size<(w.alloc (.cells #[.int .i64 v.k,.int .i64 v.n] 27)).heap.size:=by simp
   have hne:¬ w.heap.size=g:=by omega
   have hne':¬ g=w.heap.size:=by omega
   go_enter Tryz.func104,Tryz.ntmps104
   go_upto_region 1 with (fail)
   generalize (w.alloc (.cells #[.int .i64 v.k,.int .i64 v.n] 27))=W at *
   simp at b0 b1
   go_wp2;refine bodyPost_end (v:=.tuple #[]) (by simp[results,Tryz.results104,go_sem]) rfl ⟨rfl,by rw[HE.out];exact hset,by simpa using hz,fun S T hs=>((HK.out S T).set (fun _=>hs) _ _).set (fun _=>hs) _ _⟩
  ·have hk1:((l.length:Int)<=(k:Int)):=by omega
   have hs:l.set k v=l:=List.set_eq_of_length_le (by omega)
   go_enter Tryz.func104,Tryz.ntmps104;go_wp2;refine bodyPost_end (v:=.tuple #[]) (by simp[results,Tryz.results104,go_sem]) rfl ⟨rfl,by rw[HE.out,hs];exact h1,by simp,fun S T hs=>Kp.of_below (xaj _ _)⟩
theorem hid {p:Prop}(h:p):Hid p:=h
theorem xat {P:Program}{ops:Array Oper}{o:Oper}{a:Act}{w w':World}{K:Act->World->Prop}{Q:Exit->Act->World->Prop}{E:Prop}(hg:o.guard=none)(s x:Operand)(T:TypeId)(hop:o.op=Op.call { callee:=Callee.builtin Builtin.append,args:=#[s,x],argTypes:=#[T,T] })
  (vs vx v':Value) (hs:a.eval s=vs) (hx:a.eval x=vx) (hrun:(Builtin.append_ #[T,T] o.type #[vs,vx]).run P w=.ok v' w') (hK:K (a.put o.dst v') w'):if Region.wanted o (yielded ops a.tmps)=true then Oper.wp P o a w K Q else E:=by
 have hw:Region.wanted o (yielded ops a.tmps)=true:=by simp[Region.wanted,hg]
 rw[if_pos hw];unfold Oper.wp
 simp[execOp,hop,resolve,invoke,builtin,hs,hx,hrun,Result.andThen]
 exact hK
theorem xam {w:World}{b:Nat}{cur:Array Value}{t:TypeId}(h:w.heap[b]?=some (.cells cur t (0,0)))(o:Nat):w.frozen? ⟨b,o,none⟩=false:=by unfold World.frozen?;simp[h]
theorem ownsAt.vals {w:World}{base:Nat}{v:Value}{xs:List QV}(h:ownsAt w base 27 2 v xs.length (xal xs))(hb:xs.length*16<=140737488351232):xaB (fun b=>v.ownBlock=some b) w v xs:=by
 obtain⟨h1,⟨rfl,h2⟩ | ⟨g,o,cap,cur,rfl,h3,h4,h5,h6,h7,h8⟩⟩:=h
 ·have:xs=[]:=List.eq_nil_of_length_eq_zero h2;subst this
  exact⟨none,0,rfl,by simp,by simp,by simp,fun i x hx=>by simp at hx⟩
 ·refine⟨_,_,rfl,h5,h6,hb,fun i x hx=>⟨g,o,rfl,rfl,?_⟩⟩
  have hi:=xae hx
  have hcell:∀ j,j<xs.length*2->w.cell? ⟨g,o+j,none⟩=(xal xs)[j]?:=fun j hj=>by
   rw[← h8,qzB h4,List.getElem?_take,if_pos hj,List.getElem?_drop]
   simp
  obtain⟨e1,e2⟩:=xbO hx
  exact⟨by show w.cell? ⟨g,o+i*2+0,none⟩=_;rw[Nat.add_zero,hcell _ (by omega)];exact e1,by show w.cell? ⟨g,o+i*2+1,none⟩=_;rw[Nat.add_assoc,hcell _ (by omega)];exact e2⟩
theorem ownsAt.take {w:World}{base n:Nat}{a:Option Addr}{cap:Nat}{xs:List QV}(h:ownsAt w base 27 2 (.slice a n cap) n (xal xs)){k:Nat}(hk:k<=n):ownsAt w base 27 2 (.slice a k cap) k (xal (xs.take k)):=by
 have hx:xs.length=n:=by have:=h.1;rw[xbm] at this;omega
 obtain⟨h1,⟨e,h2⟩ | ⟨g,o,cap',cur,e,h3,h4,h5,h6,h7,h8⟩⟩:=h
 ·cases e
  obtain rfl:k=0:=by omega
  exact⟨by simp[xal],Or.inl ⟨rfl,rfl⟩⟩
 ·cases e
  refine⟨by rw[xbm,List.length_take];omega,Or.inr ⟨g,o,cap,cur,rfl,h3,h4,by omega,h6,h7,?_⟩⟩
  rw[← xdG,← h8,List.take_take]
  congr 1
  omega
theorem ownsAt.base {w:World}{base base':Nat}{e:TypeId}{sz:Nat}{v:Value}{n:Nat}{xs:List Value}(h:ownsAt w base e sz v n xs)(hb:∀ g,v.ownBlock=some g->base'<=g):ownsAt w base' e sz v n xs:=by
 obtain⟨h1,h2 | ⟨g,o,cap,cur,rfl,h3,h4,h5⟩⟩:=h
 ·exact⟨h1,Or.inl h2⟩
 ·exact⟨h1,Or.inr ⟨g,o,cap,cur,rfl,hb g (by simp[Value.ownBlock]),h4,h5⟩⟩
abbrev FB (f:Fr)(cv av tv sv kv:Value):Obj:=.cells #[.int .i64 f.cls,.string f.meth.name,.int .i64 f.meth.args,.int .i64 f.meth.temps,.int .i64 f.meth.prim,cv,.int .i64 f.self.k,.int .i64 f.self.n,av,tv,sv,kv,.int .i64 f.pc,.bool f.fast] 149 (0,0)
structure FrAt (T:Nat->Nat)(K:Nat)(w:World)(fb:Nat)(f:Fr)(cv av tv sv kv:Value):Prop where
 box:w.heap[fb]?=some (FB f cv av tv sv kv)
 tag:T fb=K
 args:xaB (Fx T w) w av f.args
 temps:∃ tb,tv=.slice (some ⟨tb,0,none⟩) f.temps.length f.temps.length/\w.heap[tb]?=some (.cells (xal f.temps).toArray 27 (0,0))/\T tb=K+1/\f.temps.length<=40
 stack:ownsAt w 0 27 2 sv f.stack.length (xal f.stack)
 stag:∀ g,sv.ownBlock=some g->T g=K+2
 few:f.stack.length<=1000000000
 code:xa5 (Fx T w) w kv f.code
 meth:xa5 (Fx T w) w cv f.meth.code
 pos:5<=K
section
variable {T T':Nat->Nat} {K:Nat} {w w':World} {fb:Nat} {f:Fr} {cv av tv sv kv:Value}
theorem FrAt.keep {S:Nat->Prop}(h:FrAt T K w fb f cv av tv sv kv)(e:Ext T T' w)(k:Kp S T w w')(h0:¬ S 0)(h1:¬ S K)(h2:¬ S (K+1))(h3:¬ S (K+2)):FrAt T' K w' fb f cv av tv sv kv:=by
 obtain⟨tb,e1,e2,e3,e4⟩:=h.temps;refine⟨k.held h.box (by rw[h.tag];exact h1),by rw[e _ (xaf h.box)];exact h.tag,h.args.fx xaK e k h0,⟨tb,e1,k.held e2 (by rw[e3];exact h2),by rw[e _ (xaf e2)];exact e3,e4⟩,h.stack.keep fun g hg=>k.blk g (h.stack.lt g hg).2 (by rw[h.stag g hg];exact h3),fun g hg=>by rw[e _ (h.stack.lt g hg).2];exact h.stag g hg,h.few,h.code.fx xbl e k h0,h.meth.fx xbl e k h0,h.pos⟩
theorem FrAt.later (h:FrAt T K w fb f cv av tv sv kv)(hb:Below w.heap.size w w'):FrAt T K w' fb f cv av tv sv kv:=h.keep (S:=fun _=>False) (.refl _ _) (.of_below hb) id id id id
theorem FrAt.turn {f':Fr}{sv':Value}(h:FrAt T K w fb f cv av tv sv kv)(k:Kp (fun t=>t=K) T w w')(hb:w'.heap[fb]?=some (FB f' cv av tv sv' kv))(e1:f'.args=f.args)(e2:f'.temps=f.temps)(e3:f'.code=f.code)(e4:f'.meth=f.meth)(hs:ownsAt w 0 27 2 sv' f'.stack.length (xal f'.stack))(ho:∀ g,sv'.ownBlock=some g->T g=K+2)(hf:f'.stack.length<=1000000000):FrAt T K w' fb f' cv av tv sv' kv:=by
 obtain⟨tb,d1,d2,d3,d4⟩:=h.temps;have hp:=h.pos;refine⟨hb,h.tag,by rw[e1];exact h.args.fx xaK (.refl _ _) k (by omega),⟨tb,by rw[e2];exact d1,by rw[e2];exact k.held d2 (by rw[d3];omega),d3,by rw[e2];exact d4⟩,hs.keep fun g hg=>k.blk g (hs.lt g hg).2 (by rw[ho g hg];omega),ho,hf,by rw[e3];exact h.code.fx xbl (.refl _ _) k (by omega),by rw[e4];exact h.meth.fx xbl (.refl _ _) k (by omega),hp⟩
theorem FrAt.cut {a:Option Addr}{cap m:Nat}(h:FrAt T K w fb f cv av tv (.slice a f.stack.length cap) kv)(k:Kp (fun t=>t=K) T w w')(hb:w'.heap[fb]?=some (FB { f with stack:=f.stack.take m } cv av tv (.slice a m cap) kv))(hm:m<=f.stack.length):FrAt T K w' fb { f with stack:=f.stack.take m } cv av tv (.slice a m cap) kv:=by
 have hl:(f.stack.take m).length=m:=by rw[List.length_take];omega
 refine h.turn k hb rfl rfl rfl rfl ?_ (fun g hg=>h.stag g (by cases a<;>exact hg)) (by show (f.stack.take m).length<=_;rw[hl];have:=h.few;omega)
 show ownsAt w 0 27 2 _ (f.stack.take m).length _
 rw[hl]
 exact h.stack.take hm
theorem FrAt.vals (h:FrAt T K w fb f cv av tv sv kv):xaB (fun b=>sv.ownBlock=some b) w sv f.stack:=h.stack.vals (by have:=h.few;omega)
end
theorem xmb {n:Nat}(h:n<=1000000000)(k:Int)(hk:0<=k/\k<=9223372036854775807):IntKind.i64.wrap (IntKind.i64.wrap ((n:Int)-1)-k)=(n:Int)-1-k:=by
 rw[xaE (n:=(n:Int)-1) (by omega) (by omega),xaE (by omega) (by omega)]
theorem xfm {T:Nat->Nat}{K:Nat}{w:World}{fb:Nat}{f:Fr}{cv av tv sv kv:Value}(h:FrAt T K w fb f cv av tv sv kv)(n:Int)(hn:0<=n/\n<=9223372036854775807):Calls Tryz.prog 101 #[.pointer (some ⟨fb,0,none⟩),.int .i64 n] w fun e w'=>e=.returned (VV (xaW f.stack n))/\Below w.heap.size w w':=by
 have hv:=h.vals;have hlt:=xaf h.box;have c0:w.cell? ⟨fb,10,none⟩=some sv:=by rw[qzB h.box];rfl
 have hfew:=h.few;have HR:Hid (IntKind.i64.wrap (IntKind.i64.wrap ((f.stack.length:Int)-1)-n)=(f.stack.length:Int)-1-n):=xmb hfew n hn;clear h;obtain⟨a,cap,rfl,-⟩:=id hv;have hb1:Below w.heap.size w (w.alloc (.cells #[.int .i64 0,.int .i64 0] 27)).drew:=(xaj w _).drew;have hv1:=hv.later xaK hb1;have c1:=qzA hb1 c0;have r0:(w.alloc (.cells #[.int .i64 0,.int .i64 0] 27)).drew.cell? ⟨w.heap.size,0,none⟩=some (.int .i64 0):=xaa w #[.int .i64 0,.int .i64 0] 27 _ rfl 0;have r1:(w.alloc (.cells #[.int .i64 0,.int .i64 0] 27)).drew.cell? ⟨w.heap.size,1,none⟩=some (.int .i64 0):=xaa w #[.int .i64 0,.int .i64 0] 27 _ rfl 1
 have rf:∀ o,(w.alloc (.cells #[.int .i64 0,.int .i64 0] 27)).drew.frozen? ⟨w.heap.size,o,none⟩=false:=xam (qzJ w (.cells #[.int .i64 0,.int .i64 0] 27));have hz:w.heap.size<(w.alloc (.cells #[.int .i64 0,.int .i64 0] 27)).drew.heap.size:=by simp
 clear hv c0;go_enter Tryz.func101,Tryz.ntmps101
 go_upto_region 1 with (fail)
 generalize (w.alloc (.cells #[.int .i64 0,.int .i64 0] 27))=W at *
 go_region_held3 (fun w'=>w'.cell? ⟨fb,10,none⟩=some (Value.slice a f.stack.length cap))
  (first | with_reducible exact c1 | with_reducible exact c2 | exact (qzI _ _ _ _ (by simp;omega)).trans ((qzI _ _ _ _ (by simp;omega)).trans c2))
  (first | (go_at_call 92;rw[HR.out];refine (xc0 f.stack _ _ _ hv1).mono ?_;rintro e w1 ⟨rfl,hb2⟩;have c2:=qzA hb2 c1;have s0:=qzA hb2 r0;have s1:=qzA hb2 r1;have sf:∀ o,w1.frozen? ⟨w.heap.size,o,none⟩=false:=fun o=>(hb2.frozen (p:=⟨w.heap.size,o,none⟩) hz).trans (rf o)))
 go_wp2;refine qzK (v:=VV (xaW f.stack n)) ?_ rfl ⟨rfl,((xah hb1 hb2).setCell (by simp) _).setCell (by simp) _⟩
 simp[results,Tryz.results101,go_sem,s0,s1]
 exact⟨rfl,rfl⟩
theorem xe7 (w:World):w.drew.heap=w.heap:=rfl
theorem xeP {w:World}{fb:Nat}{f:Fr}{cv av tv sv kv:Value}(h:w.heap[fb]?=some (FB f cv av tv sv kv))(l:List QV)(sv':Value):(w.setCell ⟨fb,10,none⟩ sv').heap[fb]?=some (FB { f with stack:=l } cv av tv sv' kv):=by
 rw[xad h];rfl
theorem xdD {T:Nat->Nat}{K:Nat}{w:World}{fb:Nat}{f:Fr}{cv av tv sv kv:Value}(h:FrAt T K w fb f cv av tv sv kv):Calls Tryz.prog 94 #[.pointer (some ⟨fb,0,none⟩)] w fun e w'=>e=.returned (VV f.top)/\(∃ sv',FrAt T K w' fb f.pop cv av tv sv' kv)/\Kp (fun t=>t=K) T w w':=by
 have hlt:=xaf h.box;have hb1:Below w.heap.size w (w.alloc (.cells #[.int .i64 0,.int .i64 0] 27)):=xaj w _;have h1:=h.later hb1;have r0:(w.alloc (.cells #[.int .i64 0,.int .i64 0] 27)).cell? ⟨w.heap.size,0,none⟩=some (.int .i64 0):=xaa w #[.int .i64 0,.int .i64 0] 27 _ rfl 0;have r1:(w.alloc (.cells #[.int .i64 0,.int .i64 0] 27)).cell? ⟨w.heap.size,1,none⟩=some (.int .i64 0):=xaa w #[.int .i64 0,.int .i64 0] 27 _ rfl 1;have rf:∀ o,(w.alloc (.cells #[.int .i64 0,.int .i64 0] 27)).frozen? ⟨w.heap.size,o,none⟩=false:=xam (qzJ w (.cells #[.int .i64 0,.int .i64 0] 27));have hz:w.heap.size<(w.alloc (.cells #[.int .i64 0,.int .i64 0] 27)).heap.size:=by simp
 have HF:Hid (FrAt T K w fb f cv av tv sv kv):=h;have hfew:=h.few;clear h;go_enter Tryz.func94,Tryz.ntmps94
 go_upto_region 1 with (fail)
 generalize (w.alloc (.cells #[.int .i64 0,.int .i64 0] 27))=W at *;go_wp2_with fail;refine (xfm h1 0 ⟨by omega,by omega⟩).mono ?_
 rintro e w1 ⟨rfl,hb2⟩;have h2:=h1.later hb2;have hbb:=xah hb1 hb2;have s0:=qzA hb2 r0;have s1:=qzA hb2 r1;have sf:∀ o,w1.frozen? ⟨w.heap.size,o,none⟩=false:=fun o=>(hb2.frozen (p:=⟨w.heap.size,o,none⟩) hz).trans (rf o)
 have c0:w1.cell? ⟨fb,10,none⟩=some sv:=by rw[qzB h2.box];rfl
 have cf:=xam h2.box;have hz2:=hb2.size;have hzz:¬ fb=w.heap.size:=by omega
 have hzz':¬ w.heap.size=fb:=by omega
 have hbx:=h2.box;have hst:=h2.stack;have hl1:fb<w1.heap.size:=by omega
 have hl2:w.heap.size<w1.heap.size:=by omega
 obtain⟨a,cap,rfl,hc1,hc2⟩:=hst.form;unfold maxLen at hc2;have HT:Hid (f.top=xaW f.stack 0):=rfl;have HS:Hid (ownsAt w1 0 27 2 (.slice a f.stack.length cap) f.stack.length (xal f.stack)):=hst;have H2:Hid (FrAt T K w1 fb f cv av tv (.slice a f.stack.length cap) kv):=h2;have HX:Hid (w1.heap[fb]?=some (FB f cv av tv (.slice a f.stack.length cap) kv)):=hbx;clear h1 h2 r0 r1 rf hst hbx hb1 hb2;obtain⟨v,hv⟩:∃ v,v=xaW f.stack 0:=⟨_,rfl⟩;rw[← hv] at HT ⊢;clear hv;go_wp2;have HK:Hid (Kp (fun t=>t=K) T w1 (w1.alloc (.cells #[.int .i64 v.k,.int .i64 v.n] 27))):=Kp.of_below (xaj _ _)
 have H3:Hid (FrAt T K (w1.alloc (.cells #[.int .i64 v.k,.int .i64 v.n] 27)) fb f cv av tv (.slice a f.stack.length cap) kv):=H2.out.later (xaj _ _);have d0:=qzA (xaj w1 (.cells #[.int .i64 v.k,.int .i64 v.n] 27)) c0;have df:∀ o,(w1.alloc (.cells #[.int .i64 v.k,.int .i64 v.n] 27)).frozen? ⟨fb,o,none⟩=false:=xam H3.out.box;have u0:=qzA (xaj w1 (.cells #[.int .i64 v.k,.int .i64 v.n] 27)) s0;have u1:=qzA (xaj w1 (.cells #[.int .i64 v.k,.int .i64 v.n] 27)) s1;have uf:∀ o,(w1.alloc (.cells #[.int .i64 v.k,.int .i64 v.n] 27)).frozen? ⟨w.heap.size,o,none⟩=false:=fun o=>((xaj w1 _).frozen (p:=⟨w.heap.size,o,none⟩) hl2).trans (sf o)
 have b0:(w1.alloc (.cells #[.int .i64 v.k,.int .i64 v.n] 27)).cell? ⟨w1.heap.size,0,none⟩=some (.int .i64 v.k):=xaa _ _ _ _ rfl 0;have b1:(w1.alloc (.cells #[.int .i64 v.k,.int .i64 v.n] 27)).cell? ⟨w1.heap.size,1,none⟩=some (.int .i64 v.n):=xaa _ _ _ _ rfl 1;have n1:¬ w1.heap.size=fb:=by omega
 have n2:¬ w1.heap.size=w.heap.size:=by omega
 have n3:¬ w.heap.size=w1.heap.size:=by omega
 have n4:¬ fb=w1.heap.size:=by omega
 have HBV:Hid (Below w.heap.size w (w1.alloc (.cells #[.int .i64 v.k,.int .i64 v.n] 27))):=xah hbb (xaj _ _);clear s0 s1 sf c0 cf H2 HS HX;generalize (w1.alloc (.cells #[.int .i64 v.k,.int .i64 v.n] 27))=V at *;have HL:Hid (f.pop={ f with stack:=f.stack.take (f.stack.length-1) }):=by show _=_;unfold Fr.pop;rw[List.dropLast_eq_take]
 by_cases h0:f.stack.length=0
 ·have hw:IntKind.i64.wrap (((0:Nat):Int)-1)=-1:=by rfl
  have h0':Hid (f.stack.length-1=0):=by show _=_;omega
  rw[h0] at d0
  go_region
  go_wp2;refine qzK (v:=VV v) ?_ rfl ⟨by rw[HT.out],⟨.slice a 0 cap,?_⟩,?_⟩
  ·simp[results,Tryz.results94,go_sem,u0,u1,n2,n3]
  ·rw[HL.out,h0'.out];refine HF.out.cut (m:=0) ?_ ?_ (by omega)
   ·exact (((((Kp.of_below HBV.out).set (fun _=>HF.out.tag) _ _).set (fun h=>absurd h (Nat.lt_irrefl _)) _ _).set (fun h=>absurd h (Nat.lt_irrefl _)) _ _)).drew
   ·rw[xe7,xab hzz,xab hzz]
    exact xeP H3.out.box _ _
  ·exact (((((Kp.of_below HBV.out).set (fun _=>HF.out.tag) _ _).set (fun h=>absurd h (Nat.lt_irrefl _)) _ _).set (fun h=>absurd h (Nat.lt_irrefl _)) _ _)).drew
 ·obtain⟨m,hm⟩:∃ m,f.stack.length=m+1:=⟨f.stack.length-1,by omega⟩
  have hw:IntKind.i64.wrap ((f.stack.length:Int)-1)=(m:Int):=by rw[hm,xaE (by omega) (by omega)];omega
  have hm0:¬ ((m:Int)<0):=by omega
  have hm1:m<=cap:=by omega
  have hm2:(m:Int)<=(cap:Int):=by omega
  have HM:Hid (f.stack.length-1=m):=by show _=_;omega
  have HM2:Hid (m<=f.stack.length):=by show _<=_;omega
  clear hm h0;generalize hL:f.stack.length=L at hw d0
  go_region
  go_wp2;refine qzK (v:=VV v) ?_ rfl ⟨by rw[HT.out],⟨.slice a m cap,?_⟩,?_⟩
  ·simp[results,Tryz.results94,go_sem,u0,u1,n2,n3]
  ·rw[HL.out,HM.out];refine HF.out.cut (m:=m) ?_ ?_ HM2.out
   ·exact (((((Kp.of_below HBV.out).set (fun _=>HF.out.tag) _ _).set (fun h=>absurd h (Nat.lt_irrefl _)) _ _).set (fun h=>absurd h (Nat.lt_irrefl _)) _ _)).drew
   ·rw[xe7,xab hzz,xab hzz]
    exact xeP H3.out.box _ _
  ·exact (((((Kp.of_below HBV.out).set (fun _=>HF.out.tag) _ _).set (fun h=>absurd h (Nat.lt_irrefl _)) _ _).set (fun h=>absurd h (Nat.lt_irrefl _)) _ _)).drew
theorem FrAt.pushed {T:Nat->Nat}{K:Nat}{w U w':World}{fb:Nat}{f:Fr}{cv av tv sv sv' kv:Value}{v:QV}(h:FrAt T K w fb f cv av tv sv kv)(hU:Below w.heap.size w U)(hn:f.stack.length<1000000000)
  (r1:ownsAt w' 0 27 2 sv' (f.stack.length+1) (xal f.stack++[.int .i64 v.k,.int .i64 v.n])) (r2:sv'.ownBlock=sv.ownBlock\/∃ g,sv'.ownBlock=some g/\U.heap.size<=g) (r3:Below 0 U w') (r4:∀ b,b<U.heap.size->some b≠sv.ownBlock->w'.heap[b]?=U.heap[b]?) (hx:w'.heap[fb]?=some (FB f cv av tv sv kv)) :
  (∃ T',Ext T T' w/\FrAt T' K (w'.setCell ⟨fb,10,none⟩ sv') fb (f.push v) cv av tv sv' kv)/\Kp (fun t=>t=K\/t=K+2) T w (w'.setCell ⟨fb,10,none⟩ sv'):=by
 have hlt:=xaf h.box;have hp:=h.pos
 have kU:Kp (fun t=>t=K\/t=K+2) T w w':=⟨r3.os.trans hU.os,r3.tape.trans hU.tape,r3.output.trans hU.output,qzD hU.size r3.size,fun b hb hs=>by
  rw[r4 b (qzE hb hU.size) (fun e=>hs (Or.inr (h.stag b e.symm))),hU.block b hb]⟩
 have k:=kU.set (b:=fb) (fun _=>Or.inl h.tag) 10 sv'
 obtain⟨T',hT,hg⟩:∃ T',Ext T T' w/\∀ g,sv'.ownBlock=some g->T' g=K+2:=by
  rcases r2 with e | ⟨g,e,hg⟩
  ·exact⟨T,.refl _ _,fun g hg=>h.stag g (by rw[← e];exact hg)⟩
  ·exact⟨xhE T g (K+2),xd5 (qzD hU.size hg),fun g' h'=>by rw[e] at h';cases h';exact xdv _ _ _⟩
 refine⟨⟨T',hT,?_⟩,k⟩;obtain⟨tb,d1,d2,d3,d4⟩:=h.temps;refine⟨xeP hx (f.stack++[v]) sv',by rw[hT _ hlt];exact h.tag,h.args.fx xaK hT k (by omega),⟨tb,d1,k.held d2 (by rw[d3];omega),by rw[hT _ (xaf d2)];exact d3,d4⟩,?_,hg,?_,h.code.fx xbl hT k (by omega),h.meth.fx xbl hT k (by omega),hp⟩
 ·have r1':ownsAt w' 0 27 2 sv' (f.push v).stack.length (xal (f.push v).stack):=by
   show ownsAt w' 0 27 2 sv' (f.stack++[v]).length (xal (f.stack++[v]))
   rw[xck,List.length_append]
   exact r1
  exact r1'.keep fun g hg'=>xab (fun e=>by have:=hg g hg';rw[e,hT _ hlt,h.tag] at this;omega) _
 ·show (f.stack++[v]).length<=_
  simp;omega
theorem xdM {T:Nat->Nat}{K:Nat}{w:World}{fb:Nat}{f:Fr}{cv av tv sv kv:Value}(h:FrAt T K w fb f cv av tv sv kv)(v:QV)(hroom:f.stack.length<1000000000):Calls Tryz.prog 103 #[.pointer (some ⟨fb,0,none⟩),VV v] w fun e w'=>e=.returned (.tuple #[])/\(∃ T' sv',Ext T T' w/\FrAt T' K w' fb (f.push v) cv av tv sv' kv)/\Kp (fun t=>t=K\/t=K+2) T w w':=by
 have hlt:=xaf h.box;have h1:=h.later (xaj w (.cells #[.int .i64 v.k,.int .i64 v.n] 27));have b0:(w.alloc (.cells #[.int .i64 v.k,.int .i64 v.n] 27)).cell? ⟨w.heap.size,0,none⟩=some (.int .i64 v.k):=xaa _ _ _ _ rfl 0;have b1:(w.alloc (.cells #[.int .i64 v.k,.int .i64 v.n] 27)).cell? ⟨w.heap.size,1,none⟩=some (.int .i64 v.n):=xaa _ _ _ _ rfl 1;have HBV:Hid (Below w.heap.size w (w.alloc (.cells #[.int .i64 v.k,.int .i64 v.n] 27))):=xaj _ _;go_enter Tryz.func103,Tryz.ntmps103
 go_upto_region 1 with (fail)
 generalize (w.alloc (.cells #[.int .i64 v.k,.int .i64 v.n] 27))=V at *;have c0:V.cell? ⟨fb,10,none⟩=some sv:=by rw[qzB h1.box];rfl
 have cf:=xam h1.box;have hl1:fb<V.heap.size:=xaf h1.box;have hl2:¬ fb=V.heap.size:=by omega
 have hst:ownsAt (V.alloc (.cells #[.int .i64 v.k,.int .i64 v.n] 27)).drew 0 27 2 sv f.stack.length (xal f.stack):=(h1.stack.alloc _).keep fun g hg=>rfl
 obtain⟨v',w',hrun,r1,r2,r3,r4⟩:=xaF (w:=(V.alloc (.cells #[.int .i64 v.k,.int .i64 v.n] 27)).drew) 28 28 27 _ 2 16 Tryz.underlying28 xbW rfl (by omega) 0 f.stack.length sv (xal f.stack) hst V.heap.size [.int .i64 v.k,.int .i64 v.n] rfl (qzJ V _) (by simp;exact⟨rfl,rfl⟩) (by unfold maxLen;omega) (by omega) (by omega)
 obtain⟨a,cap,rfl,hc1,hc2⟩:=h1.stack.form;obtain⟨a',cap',rfl,-⟩:=r1.form;have R1:Hid (ownsAt w' 0 27 2 (.slice a' (f.stack.length+1) cap') (f.stack.length+1) (xal f.stack++[.int .i64 v.k,.int .i64 v.n])):=r1;have R2:=hid r2;have R4:=hid r4;have HB3:Hid (Below 0 _ w'):=r3;have hnb:some fb≠(Value.slice a f.stack.length cap).ownBlock:=fun e=>by have:=h1.stag fb e.symm;rw[h1.tag] at this;omega
 have hbx:w'.heap[fb]?=some (FB f cv av tv (.slice a f.stack.length cap) kv):=by
  rw[r4 fb (by simp;omega) hnb];exact xac h1.box (xaj _ _).drew
 have d0:w'.cell? ⟨fb,10,none⟩=some (.slice a f.stack.length cap):=by rw[qzB hbx];rfl
 have df:=xam hbx;have HX:=hid hbx;have H0:=hid h;have HBU:Hid (Below w.heap.size w (V.alloc (.cells #[.int .i64 v.k,.int .i64 v.n] 27)).drew):=xah HBV.out (xaj _ _).drew;clear r1 r2 r3 r4 hst h1 hbx hnb h
 go_region_law (refine xat rfl (.tmp 8) (.tmp 10) 28 rfl (.slice a f.stack.length cap) (.slice (some ⟨V.heap.size,0,none⟩) 1 1) (.slice a' (f.stack.length+1) cap') (by simp[Act.eval,Act.put]) (by simp[Act.eval,Act.put]) hrun ?_)
 all_goals (
  go_wp2;obtain⟨⟨T',e1,e2⟩,e3⟩:=H0.out.pushed (v:=v) HBU.out hroom R1.out R2.out HB3.out R4.out HX.out
  exact bodyPost_end (v:=.tuple #[]) (by simp[results,Tryz.results103,go_sem]) rfl ⟨rfl,⟨T',_,e1,e2⟩,e3⟩)
end Go.Proofs.YtapbeiccodnniaaGreat
