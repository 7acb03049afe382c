/- A part. -/
import Derived.Test.YtbafokihegegiaaGreatDoorM6
import Derived.Test.YtbafokihegegiaaGreatDoorM7
import Derived.Deep.RegionWith
import Derived.Deep.RegionHeld
namespace Go.Proofs.YtbafokihegegiaaGreatDoor
open Go.ChangeShapes Go.WideShapes Go.ChangeAt Go.RowKit
set_option linter.unusedSimpArgs false
set_option linter.unusedVariables false
set_option maxHeartbeats 8000000
theorem xfB {xs:List QC}{name:ByteArray}:∀ {l:List Int},xdi xs name l=(-1,-1)\/∃ k∈l,0<=xcR (xcJ xs k) name/\xdi xs name l=(k,xcR (xcJ xs k) name)
 | []=>Or.inl rfl
 | k :: r=>by
  unfold xdi
  split
  ·rename_i hk
   exact Or.inr ⟨k,by simp,hk,rfl⟩
  ·rcases xfB (xs:=xs) (name:=name) (l:=r) with h | ⟨q,hq,h1,h2⟩
   ·exact Or.inl h
   ·exact Or.inr ⟨q,by simp[hq],h1,h2⟩
theorem xlh (xs:List QC)(c:Int)(name:ByteArray)(h:0<=(xak xs c name).1):xak xs (xak xs c name).1 name=xak xs c name:=by
 rw[xfS c];rw[xfS c] at h
 rcases xfB (xs:=xs) (name:=name) (l:=xnP xs (xs.length+1) c) with he | ⟨k,hk,h1,he⟩
 ·rw[he] at h;simp at h
 ·rw[he];simp only;rw[xfS];obtain⟨i,hi,hik⟩:=List.mem_iff_getElem.1 hk;obtain⟨q,x,e,hx⟩:=xgf _ _ i _ (by rw[List.getElem?_eq_getElem hi])
  rw[hik] at e;have hc:xa8 xs k=some x:=by rw[e,xcX];exact hx
  unfold xnP;rw[hc];simp only[xdi];rw[if_pos h1]
theorem xex (x:QE)(y z:QL)(h:z∈(xaD x y).lz):z∈x.lz\/z=y:=by
 unfold xaD at h
 split at h
 ·exact Or.inl h
 ·split at h
  ·simp at h
  ·rw[List.mem_append] at h
   rcases h with h | h
   ·exact Or.inl h
   ·simp at h;exact Or.inr h
theorem xlG:∀ (l:List QE) (s:QS) (ep:Int) (y:QL),(xdR l s ep y).length<=l.length+1
 | [],s,ep,y=>by simp[xdR]
 | x :: r,s,ep,y=>by
  unfold xdR
  split
  ·simp
  ·simpa using xlG r s ep y
def TrueS (X:QW)(l:List QE):Prop:=∀ x∈l,x.ez=X.ez->∀ y∈x.lz,∀ nm,xgA X.cz x.site nm->xak X.cz y.found nm=xak X.cz y.cls nm
theorem xbf (x:QE)(y:QL):(xaD x y).site=x.site/\(xaD x y).ez=x.ez:=by
 unfold xaD
 split
 ·exact⟨rfl,rfl⟩
 ·split<;>exact⟨rfl,rfl⟩
theorem xd0 {x:QE}{s:QS}{ep:Int}(hs:x.site=s):(xcl x s ep).site=s/\(xcl x s ep).ez=ep/\∀ u∈(xcl x s ep).lz,x.ez=ep/\u∈x.lz:=by
 unfold xcl
 split
 ·rename_i h;exact⟨hs,h,fun u hu=>⟨h,hu⟩⟩
 ·exact⟨rfl,rfl,fun u hu=>by simp at hu⟩
theorem xgG (s:QS)(ep:Int)(y:QL):∀ (l:List QE) (z:QE),z∈xdR l s ep y->z∈l\/(z.site=s/\z.ez=ep/\∀ u∈z.lz,u=y\/∃ x∈l,x.site=s/\x.ez=ep/\u∈x.lz)
 | [],z,h=>by
  simp[xdR] at h
  subst h;refine Or.inr ⟨(xbf _ _).1,(xbf _ _).2,fun u hu=>?_⟩
  rcases xex _ _ _ hu with h | h
  ·simp at h
  ·exact Or.inl h
 | x :: r,z,h=>by
  unfold xdR at h
  split at h
  ·rename_i hs;rw[List.mem_cons] at h
   rcases h with rfl | h
   ·have hf:=xd0 (ep:=ep) ((xc2 _ _).1 hs);refine Or.inr ⟨(xbf _ _).1.trans hf.1,(xbf _ _).2.trans hf.2.1,fun u hu=>?_⟩
    rcases xex _ _ _ hu with h | h
    ·exact Or.inr ⟨x,by simp,(xc2 _ _).1 hs,hf.2.2 u h⟩
    ·exact Or.inl h
   ·exact Or.inl (by simp[h])
  ·rw[List.mem_cons] at h
   rcases h with rfl | h
   ·exact Or.inl (by simp)
   ·rcases xgG s ep y r z h with h | ⟨h1,h2,h3⟩
    ·exact Or.inl (by simp[h])
    ·refine Or.inr ⟨h1,h2,fun u hu=>?_⟩
     rcases h3 u hu with h | ⟨x',hx',h⟩
     ·exact Or.inl h
     ·exact Or.inr ⟨x',by simp[hx'],h⟩
theorem xpD {l:List QE}{s:QS}{ep c:Int}(h:0<=xhw l s ep c):∃ x∈l,x.site=s/\x.ez=ep/\∃ y∈x.lz,y.cls=c/\y.found=xhw l s ep c:=by
 unfold xhw at h ⊢
 cases hf:l.find? fun x=>eqS x.site s with
 | none=>rw[hf] at h;simp at h
 | some x=>
  rw[hf] at h;simp only[Option.map_some,Option.getD_some] at h ⊢;have hx:=List.mem_of_find?_eq_some hf;have hs:x.site=s:=by have h':=List.find?_some hf;exact (xc2 _ _).1 h'
  by_cases he:x.ez=ep
  ·rw[if_pos he] at h ⊢;unfold xfz at h ⊢
   cases hy:x.lz.find? fun y=>y.cls == c with
   | none=>rw[hy] at h;simp at h
   | some y=>
    refine⟨x,hx,hs,he,y,List.mem_of_find?_eq_some hy,?_,by simp⟩
    have:=List.find?_some hy
    simpa using this
  ·rw[if_neg he] at h;simp at h
theorem TrueS.find {X:QW}(hX:xau X=0){l:List QE}(h:TrueS X l){s:QS}{name:ByteArray}(hn:xgA X.cz s name)(c:Int):(xbb l X s c name).2.1=xak X.cz c name/\TrueS X (xbb l X s c name).1:=by
 unfold xbb
 split
 ·rename_i hh;have h0:0<=xhw l s X.ez c:=by simp[xc3] at hh;omega
  obtain⟨x,hx,hs,he,y,hy,h1,h2⟩:=xpD h0;refine⟨?_,h⟩
  show xak X.cz (xhw l s X.ez c) name=_
  rw[← h2,← h1]
  exact h x hx he y hy name (by rw[hs];exact hn)
 ·split
  ·exact⟨rfl,h⟩
  ·rename_i hk;refine⟨rfl,fun z hz he u hu nm hnm=>?_⟩
   rcases xgG _ _ _ _ z hz with h' | ⟨h1,h2,h3⟩
   ·exact h z h' he u hu nm hnm
   ·rw[h1] at hnm
    rcases h3 u hu with rfl | ⟨x,hx,e1,e2,hu'⟩
    ·rw[xpE hX hnm hn]
     exact xlh X.cz c name (by omega)
    ·exact h x hx e2 u hu' nm (by rw[e1];exact hnm)
structure CSt where
 cells:List QE
 ts:List QT
 hits:Int
 nots:Int
def xcK (X:QW)(st:CSt)(s:QS)(c:Int)(name:ByteArray):CSt × (Int × Int):=
 (⟨(xbb st.cells X s c name).1,xem st.ts s c,if (xbb st.cells X s c name).2.2 then st.hits+1 else st.hits,if (xbb st.cells X s c name).2.2 then st.nots else st.nots+1⟩,(xbb st.cells X s c name).2.1)
def xay (X:QW)(fuel:Int):Env CSt:=⟨X.cz,fuel,xcK X,xbV⟩
abbrev Ask:=QS × Int × ByteArray
def xg9 (X:QW)(fuel:Int):Env (List Ask):=⟨X.cz,fuel,fun q s c nm=>(q++[(s,c,nm)],xak X.cz c nm),xbV⟩
def xcT (X:QW)(st:CSt)(q:List Ask):CSt:=q.foldl (fun st a=>(xcK X st a.1 a.2.1 a.2.2).1) st
theorem xjo {cs:List QC}{c n:Int}{m:QM}(h:xaz cs c n=some m){k:Nat}{x:QI}(hk:m.code[k]?=some x)(h14:x.op=14):xgA cs ⟨c,m.name,k⟩ x.name:=⟨n,m,k,x,h,rfl,rfl,hk,h14,rfl⟩
theorem xno {X:QW}(hX:xau X=0)(fuel:Int)(st0:CSt):ER (fun (q:List Ask) st=>st=xcT X st0 q/\TrueS X st.cells) (xgA X.cz) (xg9 X fuel) (xay X fuel) where
 cz:=rfl
 fuel:=rfl
 quick:=rfl
 look:=fun q st s c name h hs=>by
  obtain⟨h1,h2⟩:=TrueS.find hX h.2 hs c;refine⟨h1,?_,h2⟩
  show (xcK X st s c name).1=xcT X st0 (q++[(s,c,name)])
  unfold xcT;rw[List.foldl_append,h.1]
  rfl
 plain:=fun c n m h k x hk h14=>xjo h hk h14
 fast:=fun c n m q h hq=>by cases hq
theorem xsi (X:QW)(fuel:Int):ER (fun (_:Unit) (_:List Ask)=>True) (xgA X.cz) (xbk X fuel) (xg9 X fuel) where
 cz:=rfl
 fuel:=rfl
 quick:=rfl
 look:=fun _ _ _ _ _ _ _=>⟨rfl,trivial⟩
 plain:=fun c n m h k x hk h14=>xjo h hk h14
 fast:=fun c n m q h hq=>by cases hq
def nfB (X:QW)(a:Ask):Bool:=decide ((xak X.cz a.2.1 a.2.2).1<0)
theorem xqH (X:QW)(fuel:Int):Cnt (xg9 X fuel) List.length (fun q=>q.countP (nfB X)) where
 a:=fun st s c nm=>by simp[xg9]
 b:=fun st s c nm=>by
  simp only[xg9,List.countP_append,List.countP_cons,List.countP_nil]
  by_cases h:(xak X.cz c nm).1<0
  ·refine Or.inr ⟨by simp[nfB,h],?_⟩
   unfold xaz xa8;rw[if_neg (by omega)]
   rfl
  ·exact Or.inl (by simp[nfB,h])
structure CRan (X:QW)(st0:CSt)(q:List Ask)(r:Mc CSt × QV × Int)(p:Mc Unit × QV × Int):Prop where
 heap:r.1.heap=p.1.heap
 sz_:r.1.sz_=p.1.sz_
 res:r.2=p.2
 st:r.1.st=xcT X st0 q
 tru:TrueS X r.1.st.cells
 few:(q.length:Int)<=p.1.sz_+1
 good:r.2.2≠10->q.countP (nfB X)=0
 bad:q.countP (nfB X)<=1
theorem xfP {X:QW}(hX:xau X=0)(fuel:Int){st0:CSt}(h0:TrueS X st0.cells)(d:Nat)(c n:Int)(s:QV)(a:List QV):∃ q,(∀ st1,TrueS X st1.cells->CRan X st1 q (xbh (xay X fuel) d ⟨X.heap,0,0,st1⟩ c n s a) (xbh (xbk X fuel) d ⟨X.heap,0,0,()⟩ c n s a)):=by
 refine⟨(xbh (xg9 X fuel) d ⟨X.heap,0,0,[]⟩ c n s a).1.st,fun st1 h1=>?_⟩
 obtain⟨⟨a1,a2,a3,-⟩,a4⟩:=xk9 (xsi X fuel) d ⟨X.heap,0,0,()⟩ ⟨X.heap,0,0,[]⟩ c n s a ⟨rfl,rfl,rfl,trivial⟩;obtain⟨⟨b1,b2,b3,b4⟩,b5⟩:=xk9 (xno hX fuel st1) d ⟨X.heap,0,0,[]⟩ ⟨X.heap,0,0,st1⟩ c n s a ⟨rfl,rfl,rfl,rfl,h1⟩;have hi:=(xof (xqH X fuel) d ⟨X.heap,0,0,[]⟩ c n s a).1;generalize xbh (xg9 X fuel) d ⟨X.heap,0,0,[]⟩ c n s a=l at *;refine⟨b1.trans a1,b2.trans a2,b5.trans a4,b4.1,b4.2,?_,?_,?_⟩
 ·rw[← a2]
  by_cases h:l.2.2=0
  ·have:=(hi.good h).1;simp at this;omega
  ·have:=(hi.bad h).1;simp at this;omega
 ·rw[b5];intro h10
  by_cases h:l.2.2=0
  ·simpa using (hi.good h).2
  ·rcases (hi.bad h).2 with h' | ⟨h',-⟩
   ·simpa using h'
   ·exact absurd h' h10
 ·by_cases h:l.2.2=0
  ·have:=(hi.good h).2;simp only[List.countP_nil] at this;omega
  ·rcases (hi.bad h).2 with h' | ⟨-,h'⟩
   ·simp only[List.countP_nil] at h';omega
   ·simp only[List.countP_nil] at h';omega
def xe0 (l:List QE)(s:QS):Option QE:=l.find? fun x=>eqS x.site s
theorem xlK (s:QS):eqS s s=true:=(xc2 s s).2 rfl
theorem xhl (s:QS)(ep:Int)(y:QL):∀ l:List QE,xe0 (xdR l s ep y) s=some (xaD (match xe0 l s with | none=>⟨s,ep,false,[]⟩ | some x=>xcl x s ep) y)
 | []=>by simp[xdR,xe0,(xbf _ _).1,xlK]
 | x :: r=>by
  unfold xdR xe0
  by_cases h:eqS x.site s=true
  ·have hf:=xd0 (ep:=ep) ((xc2 _ _).1 h);rw[if_pos h,List.find?_cons_of_pos (by rw[(xbf _ _).1,hf.1];exact xlK s),List.find?_cons_of_pos (p:=fun x:QE=>eqS x.site s) h]
  ·rw[if_neg h,List.find?_cons_of_neg (by simpa using h),List.find?_cons_of_neg (by simpa using h)]
   exact xhl s ep y r
theorem xha (s s':QS)(ep:Int)(y:QL)(hs:s'≠s):∀ l:List QE,xe0 (xdR l s ep y) s'=xe0 l s'
 | []=>by
  have:eqS (xaD ⟨s,ep,false,[]⟩ y).site s'=false:=by rw[(xbf _ _).1];exact Bool.eq_false_iff.2 fun h=>hs ((xc2 _ _).1 h).symm
  simp[xdR,xe0,this]
 | x :: r=>by
  unfold xdR xe0
  by_cases h:eqS x.site s=true
  ·have hxs:=(xc2 _ _).1 h;have hf:=xd0 (ep:=ep) hxs;have h1:eqS (xaD (xcl x s ep) y).site s'=false:=by rw[(xbf _ _).1,hf.1];exact Bool.eq_false_iff.2 fun h=>hs ((xc2 _ _).1 h).symm
   have h2:eqS x.site s'=false:=by rw[hxs];exact Bool.eq_false_iff.2 fun h=>hs ((xc2 _ _).1 h).symm
   rw[if_pos h,List.find?_cons_of_neg (by simpa using h1),List.find?_cons_of_neg (by simpa using h2)]
  ·rw[if_neg h]
   by_cases h':eqS x.site s'=true
   ·rw[List.find?_cons_of_pos (p:=fun x:QE=>eqS x.site s') h',List.find?_cons_of_pos (p:=fun x:QE=>eqS x.site s') h']
   ·rw[List.find?_cons_of_neg (by simpa using h'),List.find?_cons_of_neg (by simpa using h')]
    exact xha s s' ep y hs r
def KM (X:QW)(l:List QE)(s:QS)(c:Int):Prop:=∃ x,xe0 l s=some x/\x.ez=X.ez/\(x.many=true\/xc3 X.cz.length (xfz x.lz c)=true)
def Rng (X:QW)(l:List QE):Prop:=∀ x∈l,∀ y∈x.lz,xc3 X.cz.length y.found=true
theorem xgh {ls:List QL}{c:Int}{y:QL}(h:(ls.find? fun y=>y.cls == c)=some y):xfz ls c=y.found:=by unfold xfz;rw[h];rfl
theorem xpU {X:QW}{ls:List QL}{c:Int}(h:xc3 X.cz.length (xfz ls c)=true):∃ y,(ls.find? fun y=>y.cls == c)=some y:=by
 cases hf:ls.find? fun y=>y.cls == c with
 | some y=>exact⟨y,rfl⟩
 | none=>unfold xfz at h;rw[hf] at h;simp[xc3] at h
theorem xnL {ls:List QL}{c:Int}(h:0<=xbd (fun z:QL=>z.cls == c) ls):∃ y,(ls.find? fun y=>y.cls == c)=some y:=by
 cases hf:ls.find? fun y=>y.cls == c with
 | some y=>exact⟨y,rfl⟩
 | none=>
  rw[List.find?_eq_none] at hf;rw[xb8 fun i y hy=>by simpa using hf y (List.mem_of_getElem? hy)] at h
  omega
theorem KM.with {X:QW}{x:QE}{c:Int}(y:QL)(h:x.many=true\/xc3 X.cz.length (xfz x.lz c)=true):(xaD x y).many=true\/xc3 X.cz.length (xfz (xaD x y).lz c)=true:=by
 unfold xaD
 split
 ·exact h
 ·split
  ·exact Or.inl rfl
  ·rcases h with h | h
   ·exact Or.inl h
   ·obtain⟨z,hz⟩:=xpU h;refine Or.inr ?_;have:((x.lz++[y]).find? fun y=>y.cls == c)=some z:=by rw[List.find?_append,hz];rfl
    rw[xgh this,← xgh hz]
    exact h
theorem KM.put {X:QW}{l:List QE}{s:QS}{c:Int}(h:KM X l s c)(s':QS)(y:QL):KM X (xdR l s' X.ez y) s c:=by
 obtain⟨x,h1,h2,h3⟩:=h
 by_cases hs:s=s'
 ·subst hs;refine⟨_,xhl _ _ _ _,?_,?_⟩
  ·rw[(xbf _ _).2,h1];simp only;unfold xcl;rw[if_pos h2];exact h2
  ·rw[h1];simp only;unfold xcl;rw[if_pos h2];exact KM.with y h3
 ·exact⟨x,by rw[xha _ _ _ _ hs];exact h1,h2,h3⟩
theorem xnp {X:QW}{l:List QE}{s:QS}{c:Int}(h:xc3 X.cz.length (xhw l s X.ez c)=true):KM X l s c:=by
 unfold xhw at h
 cases hf:l.find? fun x=>eqS x.site s with
 | none=>rw[hf] at h;simp[xc3] at h
 | some x=>
  rw[hf] at h;simp only[Option.map_some,Option.getD_some] at h
  by_cases he:x.ez=X.ez
  ·rw[if_pos he] at h
   exact⟨x,hf,he,Or.inr h⟩
  ·rw[if_neg he] at h;simp[xc3] at h
theorem KM.get {X:QW}{l:List QE}{s:QS}{c:Int}(h:KM X l s c)(hm:∀ x∈l,x.many=false):xc3 X.cz.length (xhw l s X.ez c)=true:=by
 obtain⟨x,h1,h2,h3⟩:=h;have hx:=List.mem_of_find?_eq_some h1;rw[hm x hx] at h3;unfold xhw;unfold xe0 at h1;rw[h1];simp only[Option.map_some,Option.getD_some];rw[if_pos h2]
 rcases h3 with h | h
 ·cases h
 ·exact h
theorem xr5 {X:QW}{l:List QE}(hr:Rng X l)(s:QS)(y:QL)(hy:xc3 X.cz.length y.found=true):KM X (xdR l s X.ez y) s y.cls:=by
 refine⟨_,xhl _ _ _ _,?_,?_⟩
 ·rw[(xbf _ _).2]
  cases hc:xe0 l s with
  | none=>rfl
  | some x=>
   have:=(xc2 _ _).1 (show eqS x.site s=true from by have h':=List.find?_some hc;exact h')
   exact (xd0 (ep:=X.ez) this).2.1
 ·have hz:∀ z∈(match xe0 l s with | none=>(⟨s,X.ez,false,[]⟩:QE) | some x=>xcl x s X.ez).lz,xc3 X.cz.length z.found=true:=by
   cases hc:xe0 l s with
   | none=>intro z hz;simp at hz
   | some x=>
    intro z hz;have:=(xc2 _ _).1 (show eqS x.site s=true from by have h':=List.find?_some hc;exact h')
    exact hr x (List.mem_of_find?_eq_some hc) z ((xd0 (ep:=X.ez) this).2.2 z hz).2
  generalize (match xe0 l s with | none=>(⟨s,X.ez,false,[]⟩:QE) | some x=>xcl x s X.ez)=x at hz ⊢
  unfold xaD
  split
  ·rename_i h
   rcases h with h | h
   ·exact Or.inl h
   ·obtain⟨z,hf⟩:=xnL h;refine Or.inr ?_;rw[xgh hf]
    exact hz z (List.mem_of_find?_eq_some hf)
  ·split
   ·exact Or.inl rfl
   ·rename_i h h';refine Or.inr ?_
    have hn:(x.lz.find? fun z=>z.cls == y.cls)=none:=by
     rw[List.find?_eq_none];intro z hz';intro hzc
     apply h
     refine Or.inr ?_
     cases hi:x.lz.findIdx? fun z=>z.cls == y.cls with
     | some j=>unfold xbd;rw[hi];simp
     | none=>rw[List.findIdx?_eq_none_iff] at hi;have:=hi z hz';rw[this] at hzc;cases hzc
    have:((x.lz++[y]).find? fun z=>z.cls == y.cls)=some y:=by rw[List.find?_append,hn];simp
    rw[xgh this]
    exact hy
theorem Rng.put {X:QW}{l:List QE}(h:Rng X l)(s:QS)(y:QL)(hy:xc3 X.cz.length y.found=true):Rng X (xdR l s X.ez y):=fun z hz u hu=>by
 rcases xgG _ _ _ _ z hz with h' | ⟨-,-,h3⟩
 ·exact h z h' u hu
 ·rcases h3 u hu with rfl | ⟨x,hx,-,-,hu'⟩
  ·exact hy
  ·exact h x hx u hu'
theorem xoo (xs:List QC)(c:Int)(nm:ByteArray)(h:¬ (xak xs c nm).1<0):xc3 xs.length (xak xs c nm).1=true:=by
 rw[xfS c] at h ⊢
 rcases xfB (xs:=xs) (name:=nm) (l:=xnP xs (xs.length+1) c) with he | ⟨k,hk,h1,he⟩
 ·rw[he] at h;simp at h
 ·rw[he];obtain⟨i,hi,hik⟩:=List.mem_iff_getElem.1 hk;obtain⟨q,x,e,hx⟩:=xgf _ _ i _ (by rw[List.getElem?_eq_getElem hi])
  rw[hik] at e;have:=xad hx
  simp[xc3]
  omega
theorem xmv {X:QW}{l:List QE}(hr:Rng X l)(s:QS)(c:Int)(nm:ByteArray):Rng X (xbb l X s c nm).1/\(∀ s' c',KM X l s' c'->KM X (xbb l X s c nm).1 s' c')/\(nfB X (s,c,nm)=false->KM X (xbb l X s c nm).1 s c):=by
 unfold xbb
 split
 ·rename_i h
  exact⟨hr,fun _ _ h=>h,fun _=>xnp h⟩
 ·split
  ·rename_i h
   exact⟨hr,fun _ _ h=>h,fun h'=>by simp[nfB,h] at h'⟩
  ·rename_i h;have hin:=xoo X.cz c nm h
   exact⟨hr.put s _ hin,fun s' c' h=>h.put s _,fun _=>xr5 hr s ⟨c,_⟩ hin⟩
theorem xjV {X:QW}:∀ (q:List Ask) (st:CSt),Rng X st.cells->Rng X (xcT X st q).cells/\(∀ s c,KM X st.cells s c->KM X (xcT X st q).cells s c)/\(∀ a∈q,nfB X a=false->KM X (xcT X st q).cells a.1 a.2.1)
 | [],st,h=>⟨h,fun _ _ h=>h,fun a ha=>by cases ha⟩
 | a :: r,st,h=>by
  obtain⟨h1,h2,h3⟩:=xmv h a.1 a.2.1 a.2.2;obtain⟨i1,i2,i3⟩:=xjV r (xcK X st a.1 a.2.1 a.2.2).1 h1;refine⟨i1,fun s c hk=>i2 s c (h2 s c hk),fun b hb hn=>?_⟩
  rw[List.mem_cons] at hb
  rcases hb with rfl | hb
  ·exact i2 _ _ (h3 hn)
  ·exact i3 b hb hn
theorem xix (X:QW):∀ (q:List Ask) (st:CSt),(xcT X st q).hits+(xcT X st q).nots=st.hits+st.nots+q.length/\st.hits<=(xcT X st q).hits/\st.nots<=(xcT X st q).nots
 | [],st=>⟨by simp[xcT],Int.le_refl _,Int.le_refl _⟩
 | a :: r,st=>by
  obtain⟨h1,h2,h3⟩:=xix X r (xcK X st a.1 a.2.1 a.2.2).1;have e:xcT X st (a :: r)=xcT X (xcK X st a.1 a.2.1 a.2.2).1 r:=rfl;rw[e]
  have:(xcK X st a.1 a.2.1 a.2.2).1.hits+(xcK X st a.1 a.2.1 a.2.2).1.nots=st.hits+st.nots+1/\st.hits<=(xcK X st a.1 a.2.1 a.2.2).1.hits/\st.nots<=(xcK X st a.1 a.2.1 a.2.2).1.nots:=by
   unfold xcK;simp only
   split<;>refine⟨by omega,by omega,by omega⟩
  simp only[List.length_cons]
  omega
theorem xig {X:QW}{F:List QE}(hm:∀ x∈F,x.many=false):∀ (q:List Ask) (st:CSt),st.cells=F->(∀ a∈q,nfB X a=false->KM X F a.1 a.2.1)->(xcT X st q).cells=F/\(xcT X st q).nots<=st.nots+q.countP (nfB X)
 | [],st,h,_=>⟨h,by simp[xcT]⟩
 | a :: r,st,h,hq=>by
  have e:xcT X st (a :: r)=xcT X (xcK X st a.1 a.2.1 a.2.2).1 r:=rfl
  have hs:(xcK X st a.1 a.2.1 a.2.2).1.cells=F/\(xcK X st a.1 a.2.1 a.2.2).1.nots<=st.nots+(if nfB X a then 1 else 0):=by
   unfold xcK;simp only;rw[h]
   by_cases hk:xc3 X.cz.length (xhw F a.1 X.ez a.2.1)=true
   ·unfold xbb;rw[if_pos hk];refine⟨rfl,?_⟩;simp only[if_true]
    split<;>omega
   ·by_cases hn:nfB X a=true
    ·have hn':(xak X.cz a.2.1 a.2.2).1<0:=by simpa [nfB] using hn
     unfold xbb;rw[if_neg hk,if_pos hn',hn]
     exact⟨rfl,by simp⟩
    ·exact absurd ((hq a (by simp) (by simpa using hn)).get hm) hk
  obtain⟨i1,i2⟩:=xig hm r _ hs.1 fun b hb=>hq b (by simp[hb])
  rw[e];refine⟨i1,?_⟩;rw[List.countP_cons];have h2:=hs.2
  split at h2
  ·rename_i hb;rw[if_pos hb];simp only[Int.natCast_add,Int.natCast_one];omega
  ·rename_i hb;rw[if_neg hb];simp only[Int.natCast_add];omega
structure AgPost (a b:Mc CSt × QV × Int):Prop where
 res:b.2=a.2/\b.1.sz_=a.1.sz_
 pos:0<=a.1.st.hits/\0<=a.1.st.nots/\0<=b.1.st.hits/\0<=b.1.st.nots
 all:a.1.st.hits+a.1.st.nots=b.1.st.hits+b.1.st.nots
 few:a.1.st.hits+a.1.st.nots<=a.1.sz_+1
 good:(∀ x∈a.1.st.cells,x.many=false)->a.2.2≠10->b.1.st.nots=0
 bad:(∀ x∈a.1.st.cells,x.many=false)->b.1.st.nots<=1
theorem xpw {X:QW}(hX:xau X=0)(fuel:Int)(c n:Int)(s:QV)(args:List QV)(ts:List QT):AgPost (xbh (xay X fuel) 20 ⟨X.heap,0,0,⟨[],[],0,0⟩⟩ c n s args) (xbh (xay X fuel) 20 ⟨X.heap,0,0,⟨(xbh (xay X fuel) 20 ⟨X.heap,0,0,⟨[],[],0,0⟩⟩ c n s args).1.st.cells,ts,0,0⟩⟩ c n s args):=by
 have h0:TrueS X (⟨[],[],0,0⟩:CSt).cells:=fun x hx=>by cases hx
 obtain⟨q,hq⟩:=xfP hX fuel h0 20 c n s args;have ha:=hq _ h0;generalize xbh (xay X fuel) 20 ⟨X.heap,0,0,⟨[],[],0,0⟩⟩ c n s args=a at ha ⊢;have hb:=hq ⟨a.1.st.cells,ts,0,0⟩ ha.tru;generalize xbh (xay X fuel) 20 ⟨X.heap,0,0,⟨a.1.st.cells,ts,0,0⟩⟩ c n s args=b at hb ⊢;obtain⟨a1,a2,a3⟩:=xix X q ⟨[],[],0,0⟩;obtain⟨b1,b2,b3⟩:=xix X q ⟨a.1.st.cells,ts,0,0⟩;rw[← ha.st] at a1 a2 a3;rw[← hb.st] at b1 b2 b3;simp only at a1 a2 a3 b1 b2 b3;have hk:=(xjV (X:=X) q ⟨[],[],0,0⟩ (fun x hx=>by cases hx)).2.2
 rw[← ha.st] at hk
 have hag:(∀ x∈a.1.st.cells,x.many=false)->b.1.st.nots<=q.countP (nfB X):=fun hm=>by
  have:=(xig hm q ⟨a.1.st.cells,ts,0,0⟩ rfl hk).2;rw[← hb.st] at this
  simpa using this
 have hfew:=ha.few;rw[← ha.sz_] at hfew;refine⟨⟨hb.res.trans ha.res.symm,hb.sz_.trans ha.sz_.symm⟩,⟨a2,a3,b2,b3⟩,by omega,by omega,fun hm h10=>?_,fun hm=>?_⟩
 ·have h1:=hag hm;rw[ha.good h10] at h1
  simp at h1
  omega
 ·have h1:=hag hm;have h2:=ha.bad
  omega
set_option maxRecDepth 8000
theorem xf2 (x:QE)(y:QL):(xaD x y).lz.length<=3\/(xaD x y).lz.length<=x.lz.length:=by
 unfold xaD
 split
 ·exact Or.inr (qzC _)
 ·split
  ·exact Or.inl (by simp)
  ·exact Or.inl (by simp;omega)
theorem xnz (s:QS)(ep:Int)(y:QL):∀ (l:List QE) (z:QE),z∈xdR l s ep y->z.lz.length<=3\/∃ x∈l,z.lz.length<=x.lz.length
 | [],z,h=>by
  simp[xdR] at h
  subst h
  rcases xf2 ⟨s,ep,false,[]⟩ y with h | h
  ·exact Or.inl h
  ·exact Or.inl (by simp at h;simp[h])
 | x :: r,z,h=>by
  unfold xdR at h
  split at h
  ·rw[List.mem_cons] at h
   rcases h with rfl | h
   ·rcases xf2 (xcl x s ep) y with h | h
    ·exact Or.inl h
    ·refine Or.inr ⟨x,by simp,qzD h ?_⟩
     unfold xcl
     split<;>simp
   ·exact Or.inr ⟨z,by simp[h],qzC _⟩
  ·rw[List.mem_cons] at h
   rcases h with rfl | h
   ·exact Or.inr ⟨z,by simp,qzC _⟩
   ·rcases xnz s ep y r z h with h | ⟨x',hx,h⟩
    ·exact Or.inl h
    ·exact Or.inr ⟨x',by simp[hx],h⟩
theorem xje (l:List QE)(X:QW)(s:QS)(c:Int)(nm:ByteArray):(xbb l X s c nm).1.length<=l.length+1/\∀ z∈(xbb l X s c nm).1,z.lz.length<=3\/∃ x∈l,z.lz.length<=x.lz.length:=by
 unfold xbb
 split
 ·exact⟨by simp,fun z hz=>Or.inr ⟨z,hz,qzC _⟩⟩
 ·split
  ·exact⟨by simp,fun z hz=>Or.inr ⟨z,hz,qzC _⟩⟩
  ·exact⟨xlG _ _ _ _,fun z hz=>xnz _ _ _ _ z hz⟩
theorem xg5:∀ (ls:List QL) (c:Int),(xcg ls c).length<=ls.length+1
 | [],c=>by simp[xcg]
 | x :: r,c=>by
  unfold xcg
  split
  ·simp
  ·simpa using xg5 r c
theorem xkC (s:QS)(c:Int):∀ l:List QT,(xem l s c).length<=l.length+1/\∀ z∈xem l s c,z.lz.length<=1\/∃ x∈l,z.lz.length<=x.lz.length+1
 | []=>⟨by simp[xem],fun z hz=>by simp[xem] at hz;subst hz;exact Or.inl (by simp)⟩
 | x :: r=>by
  obtain⟨h1,h2⟩:=xkC s c r;unfold xem
  split
  ·refine⟨by simp,fun z hz=>?_⟩
   rw[List.mem_cons] at hz
   rcases hz with rfl | hz
   ·exact Or.inr ⟨x,by simp,xg5 _ _⟩
   ·exact Or.inr ⟨z,by simp[hz],by omega⟩
  ·refine⟨by simpa using h1,fun z hz=>?_⟩
   rw[List.mem_cons] at hz
   rcases hz with rfl | hz
   ·exact Or.inr ⟨z,by simp,by omega⟩
   ·rcases h2 z hz with h | ⟨x',hx,h⟩
    ·exact Or.inl h
    ·exact Or.inr ⟨x',by simp[hx],h⟩
abbrev OB (lv tv:Value)(st:CSt):Obj:=.cells #[.slice none 0 0,.slice none 0 0,.int .i64 0,.int .i64 0,.int .i64 0,.int .i64 0,.int .i64 0,lv,tv,.int .i64 st.hits,.int .i64 st.nots] 100 (0,0)
structure CFew (st:CSt)(n:Nat):Prop where
 c:st.cells.length+n+1<=1000000000000
 cl:∀ x∈st.cells,x.lz.length<=1000000000000
 t:st.ts.length+n+1<=1000000000000
 tl:∀ x∈st.ts,x.lz.length+n+1<=1000000000000
 h:0<=st.hits/\st.hits+n<=1000000000
 k:0<=st.nots/\st.nots+n<=1000000000
theorem CFew.mono {st:CSt}{n n':Nat}(h:CFew st n)(hn:n'<=n):CFew st n' where
 c:=by have:=h.c;omega
 cl:=h.cl
 t:=by have:=h.t;omega
 tl:=fun x hx=>by have:=h.tl x hx;omega
 h:=by have:=h.h;omega
 k:=by have:=h.k;omega
theorem CFew.look {st:CSt}{n:Nat}(h:CFew st (n+1))(X:QW)(s:QS)(c:Int)(nm:ByteArray):CFew (xcK X st s c nm).1 n where
 c:=by
  have h1:=h.c;have h2:=(xje st.cells X s c nm).1
  show (xbb st.cells X s c nm).1.length+n+1<=_
  omega
 cl:=fun x hx=>by
  rcases (xje st.cells X s c nm).2 x hx with h' | ⟨y,hy,h'⟩
  ·omega
  ·have:=h.cl y hy;omega
 t:=by
  have h1:=h.t;have h2:=(xkC s c st.ts).1
  show (xem st.ts s c).length+n+1<=_
  omega
 tl:=fun x hx=>by
  have h1:=h.t
  rcases (xkC s c st.ts).2 x hx with h' | ⟨y,hy,h'⟩
  ·omega
  ·have:=h.tl y hy;omega
 h:=by
  have h1:=h.h;unfold xcK;simp only
  split<;>omega
 k:=by
  have h1:=h.k;unfold xcK;simp only
  split<;>omega
theorem IsRow.fxl {α:Type}{E:Lay α}{sz bytes:Nat}{t lo:Nat}{T T':Nat->Nat}{S:Nat->Prop}{w w':World}{v:Value}{xs:List α}(h:IsRow E sz bytes (fun b=>lo<=b/\b<w.heap.size/\T b=t) w v xs)(G:Good E sz)(e:Ext T T' w)(k:Kp S T w w')(h0:¬ S t):IsRow E sz bytes (fun b=>lo<=b/\b<w'.heap.size/\T' b=t) w' v xs:=
 h.keep G (Keeps.of_block fun b hb hl=>k.blk b hl (by rw[hb.2.2];exact h0)) fun b hb=>⟨hb.1,qzE hb.2.1 k.size,by rw[e b hb.2.1];exact hb.2.2⟩
structure LcP (X:QW)(pb wb ob lo:Nat)(cv hv:Value)(T:Nat->Nat)(w:World)(st:CSt)(n:Nat):Prop where
 tp:T pb=0
 lp:pb<w.heap.size
 p0:w.cell? ⟨pb,0,none⟩=some (.pointer (some ⟨ob,0,none⟩))
 lk:LkP X wb cv hv T w () 0
 to3:T ob=3
 ll:lo<=w.heap.size
 box:∃ a m k g j i,w.heap[ob]?=some (OB (.slice a m k) (.slice g j i) st)/\xbG (fun b=>lo<=b/\b<w.heap.size/\T b=0) w (.slice a m k) st.cells/\xaI (fun b=>lo<=b/\b<w.heap.size/\T b=0) w (.slice g j i) st.ts
 few:CFew st n
theorem LcP.keep {X:QW}{pb wb ob lo:Nat}{cv hv:Value}{T T':Nat->Nat}{w w':World}{st:CSt}{n:Nat}{S:Nat->Prop}(h:LcP X pb wb ob lo cv hv T w st n)(e:Ext T T' w)(k:Kp S T w w')(h0:¬ S 0)(h3:¬ S 3):LcP X pb wb ob lo cv hv T' w' st n:=by
 obtain⟨a,m,kk,g,j,i,b1,b2,b3⟩:=h.box
 exact⟨by rw[e _ h.lp];exact h.tp,qzE h.lp k.size,k.cell h.p0 (by rw[h.tp];exact h0),h.lk.keep e k h0,by rw[e _ (xam b1)];exact h.to3,qzD h.ll k.size,⟨a,m,kk,g,j,i,k.held b1 (by rw[h.to3];exact h3),b2.fxl xbF e k h0,b3.fxl xbD e k h0⟩,h.few⟩
theorem LcP.mono {X:QW}{pb wb ob lo:Nat}{cv hv:Value}{T:Nat->Nat}{w:World}{st:CSt}{n n':Nat}(h:LcP X pb wb ob lo cv hv T w st n)(hn:n'<=n):LcP X pb wb ob lo cv hv T w st n':=⟨h.tp,h.lp,h.p0,h.lk,h.to3,h.ll,h.box,h.few.mono hn⟩
section
variable {P:Program} {md:Region.Mode} {ops:Array Oper} {Q:Exit->Act->World->Prop} {S:World->Prop}
def xcP (P:Program)(md:Region.Mode)(ops:Array Oper)(Q:Exit->Act->World->Prop)(S:World->Prop)(late:List Nat):Nat->Array Bool->Act->World->Prop
 | 0,listed,a,w=>Region.ready md ops listed=[]/\Q .normal a w
 | fuel+1,listed,a,w=>
  (Region.ready md ops listed=[]->Q .normal a w)/\
  ∀ i∈Region.ready md ops listed,wpOp P ops Q i (fun a' w'=>(late.contains i=false->S w')/\xcP P md ops Q S late fuel (listed.setIfInBounds i true) a' w') a w
theorem xfe {late:List Nat}:∀ (fuel:Nat) (listed:Array Bool) (a:Act) (w:World),xcP P md ops Q S late fuel listed a w->wpAny P md ops Q fuel listed a w
 | 0,_,_,_,h=>h
 | fuel+1,_,_,_,h=>⟨h.1,fun i hi=>wpOp_mono (fun a' w' h'=>xfe fuel _ a' w' h'.2) (h.2 i hi)⟩
def xrZ (md:Region.Mode)(ops:Array Oper)(i:Nat):Nat->Nat->Bool
 | 0,_=>false
 | n+1,k=>match ops[k]? with
  | none=>false
  | some o=>o.after.any fun e=>Region.binds md e && (e.on == i || xrZ md ops i n e.on)
def xrE (md:Region.Mode)(ops:Array Oper)(listed:Array Bool):Prop:=∀ k o,ops[k]?=some o->listed.getD k true=true->∀ e∈o.after,Region.binds md e=true->listed.getD e.on true=true
def xpk (md:Region.Mode)(ops:Array Oper)(listed:Array Bool):Bool:=
 (List.range ops.size).all fun k=>match ops[k]? with
  | none=>true
  | some o=>!(listed.getD k true) || o.after.all fun e=>!(Region.binds md e) || listed.getD e.on true
theorem xm2 {listed:Array Bool}(h:xpk md ops listed=true):xrE md ops listed:=by
 intro k o hk hl e he hb;unfold xpk at h;rw[List.all_eq_true] at h;have:=h k (List.mem_range.2 (Array.getElem?_eq_some_iff.1 hk).1);rw[hk] at this;simp only[hl,Bool.not_true,Bool.false_or,Array.all_eq_true'] at this;have h1:=this e he
 simpa [hb] using h1
theorem xjb {l:Array Bool}{i k:Nat}(h:l.getD k true=true):(l.setIfInBounds i true).getD k true=true:=by
 by_cases hik:i=k
 ·subst hik
  rcases Nat.lt_or_ge i l.size with h' | h'
  ·simp[h']
  ·simp[h']
 ·rw[getD_set_ne true hik];exact h
theorem xmd {listed:Array Bool}{i:Nat}(hd:xrE md ops listed)(hi:i∈Region.ready md ops listed):xrE md ops (listed.setIfInBounds i true):=by
 intro k o hk hl e he hb;obtain⟨hiun,oi,hoi,hall⟩:=mem_ready.1 hi
 by_cases hki:i=k
 ·subst hki;rw[hoi] at hk
  cases hk
  have h1:=hall e he hb;refine xjb ?_
  rcases Nat.lt_or_ge e.on listed.size with h' | h'
  ·simp[h'] at h1 ⊢;exact h1
  ·simp[Array.getElem?_eq_none h']
 ·rw[getD_set_ne true hki] at hl
  exact xjb (hd k o hk hl e he hb)
theorem xic {listed:Array Bool}{i:Nat}(hd:xrE md ops listed):∀ (n k:Nat),xrZ md ops i n k=true->listed.getD k true=true->listed.getD i true=true
 | 0,k,h,_=>by cases h
 | n+1,k,h,hl=>by
  unfold xrZ at h
  split at h
  ·cases h
  ·rename_i o ho;rw[Array.any_eq_true'] at h;obtain⟨e,he,h⟩:=h;simp only[Bool.and_eq_true,Bool.or_eq_true,beq_iff_eq] at h;obtain⟨hb,h⟩:=h;have hl':=hd k o ho hl e he hb
   rcases h with h | h
   ·rw[← h];exact hl'
   ·exact xic hd n e.on h hl'
theorem xoh {listed:Array Bool}{i l:Nat}(hd:xrE md ops listed){n:Nat}(h:xrZ md ops i n l=true)(hl:l∈Region.ready md ops listed):listed.getD i true=true:=by
 cases n with
 | zero=>cases h
 | succ n=>
  obtain⟨hlun,o,ho,hall⟩:=mem_ready.1 hl;unfold xrZ at h;rw[ho] at h;simp only[] at h;rw[Array.any_eq_true'] at h;obtain⟨e,he,h⟩:=h;simp only[Bool.and_eq_true,Bool.or_eq_true,beq_iff_eq] at h;obtain⟨hb,h⟩:=h;have h1:=hall e he hb
  have hl':listed.getD e.on true=true:=by
   rcases Nat.lt_or_ge e.on listed.size with h' | h'
   ·simp[h'] at h1 ⊢;exact h1
   ·simp[Array.getElem?_eq_none h']
  rcases h with h | h
  ·rw[← h];exact hl'
  ·exact xic hd n e.on h hl'
def xoE (md:Region.Mode)(ops:Array Oper)(late:List Nat)(i:Nat):Bool:=late.all fun l=>xrZ md ops i ops.size l
theorem xky {late:List Nat}{listed:Array Bool}{i j:Nat}(h:xoE md ops late i=true)(hd:xrE md ops listed)(hi:i∈Region.ready md ops listed)(hj:j∈Region.ready md ops listed):late.contains j=false:=by
 by_cases hc:late.contains j=true
 ·exfalso;unfold xoE at h;rw[List.all_eq_true] at h;have h1:=xoh hd (h j (by simpa using hc)) hj
  have h0:=(mem_ready.1 hi).1
  rcases Nat.lt_or_ge i listed.size with h' | h'
  ·simp[h'] at h0 h1;rw[h0] at h1;cases h1
  ·simp[Array.getElem?_eq_none h'] at h0
 ·simpa using hc
theorem xjt {late:List Nat}{i:Nat}{oi:Oper}{v:Value}(hlate:xoE md ops late i=true)(hi:ops[i]?=some oi)(hsel:∀ (j:Nat) (o:Oper) cs b,ops[j]?=some o->o.op≠.select cs b)
  (hQ:∀ c a w,Q (.panic c) (a.put oi.dst v) w->Q (.panic c) a w) :
  ∀ (fuel:Nat) (listed:Array Bool) (a:Act) (w:World),xrE md ops listed->
   (∀ j oj,ops[j]?=some oj->j≠i->listed.getD j true=false->(∀ e∈oj.after,Region.binds md e=true->e.on≠i)->oi.apart ops oj=true)->
   i∈Region.ready md ops listed->YieldsIf P ops S oi v a->S w->
   xcP P md ops Q S late fuel (listed.setIfInBounds i true) (a.put oi.dst v) w->xcP P md ops Q S late (fuel+1) listed a w:=by
 intro fuel
 induction fuel with
 | zero=>
  intro listed a w _ _ hr hy hS H;refine⟨fun h=>(by rw[h] at hr;cases hr),fun j hj=>?_⟩
  by_cases hji:j=i
  ·subst hji;exact hy.wpOp hi hS ⟨fun _=>hS,H⟩
  ·have:=ready_mono hj hji;rw[H.1] at this
   cases this
 | succ fuel ih=>
  intro listed a w hd hfree hr hy hS H;refine⟨fun h=>(by rw[h] at hr;cases hr),fun j hj=>?_⟩
  by_cases hji:j=i
  ·subst hji;exact hy.wpOp hi hS ⟨fun _=>hS,H⟩
  ·have hjL:late.contains j=false:=xky hlate hd hr hj;have h1:=H.2 j (ready_mono hj hji);obtain⟨hjun,oj,hoj,hall⟩:=mem_ready.1 hj
   have hnot:∀ e∈oj.after,Region.binds md e=true->e.on≠i:=fun e he hb heq=>by
    have h1:=hall e he hb;have h0:=(mem_ready.1 hr).1;rw[heq] at h1
    rcases Nat.lt_or_ge i listed.size with h' | h'
    ·simp[h'] at h0 h1;rw[h0] at h1;cases h1
    ·simp[Array.getElem?_eq_none h'] at h1
   have h2:=wpOp_putIf hoj (hfree j oj hoj hji hjun hnot) (fun cs b=>hsel i oi cs b hi) (fun cs b=>hsel j oj cs b hoj) hQ hy h1
   have hfree':∀ k ok,ops[k]?=some ok->k≠i->(listed.setIfInBounds j true).getD k true=false->
     (∀ e∈ok.after,Region.binds md e=true->e.on≠i)->oi.apart ops ok=true:=fun k ok hk hki hun hno=>by
    refine hfree k ok hk hki ?_ hno
    by_cases hjk:j=k
    ·subst hjk;exact hjun
    ·rw[getD_set_ne true hjk] at hun;exact hun
   refine wpOp_mono (fun a' w' h3=>⟨fun _=>h3.2.1 hjL,ih (listed.setIfInBounds j true) a' w' (xmd hd hj) hfree' (ready_mono hr (Ne.symm hji)) h3.1 (h3.2.1 hjL) ?_⟩) h2
   rw[Array.setIfInBounds_comm _ _ hji]
   exact h3.2.2
theorem xeD {late:List Nat}{i:Nat}{oi:Oper}{v:Value}{fuel:Nat}{listed:Array Bool}{a:Act}{w:World}(hlate:xoE md ops late i=true)(hd:xpk md ops listed=true)(hi:ops[i]?=some oi)
  (hs:Region.noSelect ops=true) (hf:Region.free md ops listed i=true) (hr:(Region.ready md ops listed).contains i=true)
  (hQ:∀ c a w,Q (.panic c) (a.put oi.dst v) w->Q (.panic c) a w) (hy:YieldsIf P ops S oi v a) (hS:S w)
  (h:xcP P md ops Q S late fuel (listed.setIfInBounds i true) (a.put oi.dst v) w):xcP P md ops Q S late (fuel+1) listed a w:=
 xjt hlate hi (Region.noSelect_spec hs) hQ fuel listed a w (xm2 hd) (Region.free_spec hi hf) (by simpa using hr) hy hS h
theorem xaE {late:List Nat}{listed:Array Bool}{a:Act}{w:World}(hr:Region.ready md ops listed=[])(h:Q .normal a w):∀ fuel,xcP P md ops Q S late fuel listed a w
 | 0=>⟨hr,h⟩
 | _+1=>⟨fun _=>h,by rw[hr];simp⟩
theorem xao {late:List Nat}{rs:List Nat}{fuel:Nat}{listed:Array Bool}{a:Act}{w:World}(hr:Region.ready md ops listed=rs)(hne:rs≠[])
  (h:∀ i∈rs,wpOp P ops Q i (fun a' w'=>(late.contains i=false->S w')/\xcP P md ops Q S late fuel (listed.setIfInBounds i true) a' w') a w):xcP P md ops Q S late (fuel+1) listed a w:=
 ⟨fun h0=>absurd (hr ▸ h0) hne,hr ▸ h⟩
theorem xa0 {late:List Nat}{i:Nat}{fuel:Nat}{listed:Array Bool}{a:Act}{w:World}{o:Oper}(ho:ops[i]?=some o)
  (h:∀ K':Act->World->Prop,(∀ a w,(late.contains i=false->S w)->xcP P md ops Q S late fuel (listed.setIfInBounds i true) a w->K' a w)->if Region.wanted o (yielded ops a.tmps)=true then Oper.wp P o a w K' Q else K' (a.put o.dst undef) w) :
  wpOp P ops Q i (fun a' w'=>(late.contains i=false->S w')/\xcP P md ops Q S late fuel (listed.setIfInBounds i true) a' w') a w:=
 wpOp_step ho (fun K' hK=>h K' (fun a w hS hW=>hK a w ⟨hS,hW⟩))
theorem xat {id:Nat}{a:Act}{w:World}(late:List Nat)(hm:P.follows .mixedOrders=true)
  (h:xcP P .any ops Q S late ops.size (Array.replicate ops.size false) a w.drew):(Code.region id ops true).wp P Q a w:=
 wp_region_any hm (xfe _ _ _ _ h)
end
section
variable {P:Program} {md:Region.Mode} {ops:Array Oper} {Q:Exit->Act->World->Prop} {S:World->Prop}
def okT (md:Region.Mode)(ops:Array Oper)(late:List Nat)(listed:Array Bool)(i:Nat):Bool:=xoE md ops late i && (xpk md ops listed && (Region.noSelect ops && (Region.free md ops listed i && (Region.ready md ops listed).contains i)))
theorem tk {late:List Nat}(i:Nat)(oi:Oper)(v:Value){fuel:Nat}{listed:Array Bool}{a:Act}{w:World}(hi:ops[i]?=some oi)(hS:S w)(hQ:∀ c a w,Q (.panic c) (a.put oi.dst v) w->Q (.panic c) a w)(hw:Region.wanted oi (yielded ops a.tmps)=true)
  (ho:okT md ops late listed i=true) (hy:∀ w,S w->(execOp a.eval oi).run P w=.ok (.value v) w) (h:xcP P md ops Q S late fuel (listed.setIfInBounds i true) (a.put oi.dst v) w):xcP P md ops Q S late (fuel+1) listed a w:=by
 unfold okT at ho;simp only[Bool.and_eq_true] at ho
 exact xeD ho.1 ho.2.1 hi ho.2.2.1 ho.2.2.2.1 ho.2.2.2.2 hQ (Or.inl ⟨hw,hy⟩) hS h
def AllR (p:Nat->Prop):List Nat->Prop
 | []=>True
 | i :: l=>p i/\AllR p l
theorem AllR.all {p:Nat->Prop}:∀ {l:List Nat},AllR p l->∀ i∈l,p i
 | [],_,i,h=>by simp at h
 | k :: l,h,i,hi=>by
  rcases List.mem_cons.1 hi with rfl | hi
  ·exact h.1
  ·exact AllR.all h.2 i hi
theorem rdy {late:List Nat}(rs:List Nat){fuel:Nat}{listed:Array Bool}{a:Act}{w:World}(hne:rs.isEmpty=false)(hr:Region.ready md ops listed=rs)
  (h:AllR (fun i=>wpOp P ops Q i (fun a' w'=>(late.contains i=false->S w')/\xcP P md ops Q S late fuel (listed.setIfInBounds i true) a' w') a w) rs):xcP P md ops Q S late (fuel+1) listed a w:=
 xao hr (by intro e;rw[e] at hne;cases hne) h.all
end
theorem xfr {α:Type}{E:Lay α}{sz bytes:Nat}{P:Nat->Prop}{w:World}{v:Value}{xs:List α}(h:IsRow E sz bytes P w v xs)(hE:∀ f x,E P w f x->E (fun b=>P b/\b<w.heap.size) w f x/\∃ u,f 0=some u):IsRow E sz bytes (fun b=>P b/\b<w.heap.size) w v xs:=by
 obtain⟨ad,cap,rfl,hl,hcap,hby,hrow⟩:=h;refine⟨ad,cap,rfl,hl,hcap,hby,fun i x hx=>?_⟩
 obtain⟨b,o,rfl,hP,hx'⟩:=hrow i x hx;obtain⟨h1,u,hu⟩:=hE _ _ hx'
 exact⟨b,o,rfl,⟨hP,World.block_lt_of_cell? w ⟨b,o+i*sz+0,none⟩ hu⟩,h1⟩
theorem xfU {P:Nat->Prop}{w:World}{v:Value}{xs:List QL}(h:xbJ P w v xs):xbJ (fun b=>P b/\b<w.heap.size) w v xs:=xfr h fun f x hx=>⟨hx,_,hx.1⟩
theorem xjx {P:Nat->Prop}{w:World}{v:Value}{xs:List QE}(h:xbG P w v xs):xbG (fun b=>P b/\b<w.heap.size) w v xs:=xfr h fun f x hx=>by
 obtain⟨h0,h1,h2,h3,h4,v,h5,hl⟩:=hx
 exact⟨⟨h0,h1,h2,h3,h4,v,h5,xfU hl⟩,_,h0⟩
theorem xhD {P:Nat->Prop}{w:World}{v:Value}{xs:List QT}(h:xaI P w v xs):xaI (fun b=>P b/\b<w.heap.size) w v xs:=xfr h fun f x hx=>by
 obtain⟨h0,h1,h2,v,h5,hl⟩:=hx
 exact⟨⟨h0,h1,h2,v,h5,xfU hl⟩,_,h0⟩
structure CfR (w:World)(pb wb ob:Nat)(cv hv lv tv:Value)(ep:Int)(s:QS)(st:CSt)(w':World):Prop where
 p0:w'.cell? ⟨pb,0,none⟩=some (.pointer (some ⟨ob,0,none⟩))
 w0:w'.cell? ⟨wb,0,none⟩=some cv
 w1:w'.cell? ⟨wb,1,none⟩=some hv
 w2:w'.cell? ⟨wb,2,none⟩=some (.int .i64 ep)
 s0:w'.cell? ⟨w.heap.size,0,none⟩=some (.int .i64 s.cls)
 s1:w'.cell? ⟨w.heap.size,1,none⟩=some (.string s.name)
 s2:w'.cell? ⟨w.heap.size,2,none⟩=some (.int .i64 s.at')
 o7:w'.cell? ⟨ob,7,none⟩=some lv
 o8:w'.cell? ⟨ob,8,none⟩=some tv
theorem CfR.al {w:World}{pb wb ob:Nat}{cv hv lv tv:Value}{ep:Int}{s:QS}{st:CSt}{w':World}(h:CfR w pb wb ob cv hv lv tv ep s st w'):w'.cell? ⟨pb,0,none⟩=some (.pointer (some ⟨ob,0,none⟩))/\w'.cell? ⟨wb,0,none⟩=some cv/\w'.cell? ⟨wb,1,none⟩=some hv/\w'.cell? ⟨wb,2,none⟩=some (.int .i64 ep)/\w'.cell? ⟨w.heap.size,0,none⟩=some (.int .i64 s.cls)/\w'.cell? ⟨w.heap.size,1,none⟩=some (.string s.name)/\w'.cell? ⟨w.heap.size,2,none⟩=some (.int .i64 s.at')/\w'.cell? ⟨ob,7,none⟩=some lv:=⟨h.p0,h.w0,h.w1,h.w2,h.s0,h.s1,h.s2,h.o7⟩
theorem CfR.later {w:World}{pb wb ob:Nat}{cv hv lv tv:Value}{ep:Int}{s:QS}{st:CSt}{w' w'':World}(h:CfR w pb wb ob cv hv lv tv ep s st w')(hb:Below w'.heap.size w' w''):CfR w pb wb ob cv hv lv tv ep s st w'':=⟨qzA hb h.p0,qzA hb h.w0,qzA hb h.w1,qzA hb h.w2,qzA hb h.s0,qzA hb h.s1,qzA hb h.s2,qzA hb h.o7,qzA hb h.o8⟩
theorem xq8 {w:World}{ob:Nat}{lv tv:Value}{st:CSt}(h:w.heap[ob]?=some (OB lv tv st))(v:Value)(l:List QE):(w.setCell ⟨ob,7,none⟩ v).heap[ob]?=some (OB v tv { st with cells:=l }):=by rw[xae h];rfl
theorem xqK {w:World}{ob:Nat}{lv tv:Value}{st:CSt}(h:w.heap[ob]?=some (OB lv tv st))(v:Value)(l:List QT):(w.setCell ⟨ob,8,none⟩ v).heap[ob]?=some (OB lv v { st with ts:=l }):=by rw[xae h];rfl
theorem xrj {w:World}{ob:Nat}{lv tv:Value}{st:CSt}(h:w.heap[ob]?=some (OB lv tv st))(n:Int):(w.setCell ⟨ob,9,none⟩ (.int .i64 n)).heap[ob]?=some (OB lv tv { st with hits:=n }):=by rw[xae h];rfl
theorem xpi {w:World}{ob:Nat}{lv tv:Value}{st:CSt}(h:w.heap[ob]?=some (OB lv tv st))(n:Int):(w.setCell ⟨ob,10,none⟩ (.int .i64 n)).heap[ob]?=some (OB lv tv { st with nots:=n }):=by rw[xae h];rfl
theorem xjz {X:QW}{pb wb ob lo:Nat}{cv hv:Value}{T:Nat->Nat}{w:World}{st:CSt}{n:Nat}(h:LcP X pb wb ob lo cv hv T w st (n+1))(s:QS)(c:Int)(name:ByteArray):Calls Tryz.prog 143 #[SV s,.int .i64 c,.string name,.pointer (some ⟨pb,0,none⟩),.pointer (some ⟨wb,0,none⟩)] w fun e w'=>e=.returned (.tuple #[.int .i64 (xcK X st s c name).2.1,.int .i64 (xcK X st s c name).2.2])/\(∃ T',Ext T T' w/\LcP X pb wb ob lo cv hv T' w' (xcK X st s c name).1 n)/\Kp (fun t=>t=3) T w w':=by
 have hb1:Below w.heap.size w (w.alloc (.cells #[.int .i64 s.cls,.string s.name,.int .i64 s.at'] 105)).drew:=(xai _ _).drew;have hsn:=xc7 w s 105;have h1:=h.keep (T':=T) (.refl _ _) (Kp.of_below (S:=fun _=>False) hb1) id id
 have hlt:ob<w.heap.size:=by obtain⟨_,_,_,_,_,_,b,_⟩:=h.box;exact xam b
 obtain⟨a,m,k,g,j,i,b1,b2,b3⟩:=h1.box;have hF:CfR w pb wb ob cv hv (.slice a m k) (.slice g j i) X.ez s st (w.alloc (.cells #[.int .i64 s.cls,.string s.name,.int .i64 s.at'] 105)).drew:=⟨h1.p0,h1.lk.w0,h1.lk.w1,h1.lk.w2,hsn.c0,hsn.c1,hsn.c2,by rw[qzB b1];rfl,by rw[qzB b1];rfl⟩
 have hfind:=xoe st.cells X s c name _ cv hv _ (b2.mono (Q:=Fx T _) xbF fun b hb=>hb.2) h1.lk.cls h1.lk.heap (by have:=h.few.c;omega) (fun x hx=>by have:=h.few.cl x hx;omega)
 have H:=hid h;have H1:=hid h1;have HB1:=hid hb1;have HLK:Hid ((xcK X st s c name).2=(xbb st.cells X s c name).2.1):=rfl;obtain⟨ac,cc,hcv,-⟩:=id h1.lk.cls;obtain⟨ah,ch,hhv,-⟩:=id h1.lk.heap;subst hcv hhv;have hne:pb≠ob:=fun e=>by have h1:=h.tp;have h2:=h.to3;rw[e] at h1;omega
 have hnw:wb≠ob:=fun e=>by have h1:=h.lk.tag;have h2:=h.to3;rw[e] at h1;omega
 have hns:w.heap.size≠ob:=by omega
 have HB:=hid b1;have H3:=hid b3;clear h h1 hb1 hsn b1 b2 b3;generalize hcf:xbb st.cells X s c name=cf at *;obtain⟨cl,⟨f1,f2⟩,kn⟩:=cf;simp only at hfind HLK;have HWZ:Hid (w.heap.size<(w.alloc (.cells #[.int .i64 s.cls,.string s.name,.int .i64 s.at'] 105)).drew.heap.size):=by show _<_;simp
 go_enter Tryz.func143,Tryz.ntmps143
 go_upto_region 1 with (fail)
 generalize (w.alloc (.cells #[.int .i64 s.cls,.string s.name,.int .i64 s.at'] 105))=W at *
 go_region_held3 (fun w'=>w'.cell? ⟨pb,0,none⟩=some (.pointer (some ⟨ob,0,none⟩))/\w'.cell? ⟨wb,0,none⟩=some (.slice ac X.cz.length cc)/\w'.cell? ⟨wb,1,none⟩=some (.slice ah X.heap.length ch)/\w'.cell? ⟨wb,2,none⟩=some (.int .i64 X.ez)/\w'.cell? ⟨w.heap.size,0,none⟩=some (.int .i64 s.cls)/\w'.cell? ⟨w.heap.size,1,none⟩=some (.string s.name)/\w'.cell? ⟨w.heap.size,2,none⟩=some (.int .i64 s.at')/\w'.cell? ⟨ob,7,none⟩=some (.slice a m k))
  (first | with_reducible exact hF.al | with_reducible exact hF2.al)
  (first | (go_at_call 144;refine hfind.mono ?_;rintro e w2 ⟨a2,k2,rfl,hc2,hb2⟩;have hF2:=hF.later hb2))
 have hB2:=xaa HB.out hb2;have H2:=hid hc2;have HB2:=hid hb2;have HX2:=hid hB2;have o7f:=xaq hB2;obtain⟨p0,w0,w1',w2',s0,s1,s2,o7,o8⟩:=id hF2;clear hF hfind hc2 hb2 hB2
 go_upto_region 3 with (fail)
 have HK2:Hid (Kp (fun t=>t=3) T w (w2.setCell ⟨ob,7,none⟩ (.slice a2 cl.length k2))):=((Kp.of_below HB1.out).on HB2.out).set (fun _=>H.out.to3) _ _
 have hKV:Kp (fun t=>t=3) T W.drew (w2.setCell ⟨ob,7,none⟩ (.slice a2 cl.length k2)):=(Kp.of_below HB2.out).set (fun _=>H.out.to3) _ _
 have hT3:=H3.out.fxl xbD (.refl T W.drew) hKV (by omega)
 have hBV:=xq8 HX2.out (.slice a2 cl.length k2) cl;have HC2:Hid (xbG (fun b=>W.drew.heap.size<=b) (w2.setCell ⟨ob,7,none⟩ (.slice a2 cl.length k2)) (.slice a2 cl.length k2) cl):=H2.out.keep xbF (xas (Keeps.refl _ _) (by have:=HB1.out.size;omega) _) fun _ h=>h
 have y0:=(World.cell?_setCell_far w2 ⟨ob,7,none⟩ ⟨pb,0,none⟩ (.slice a2 cl.length k2) (by simpa using hne.symm)).trans p0
 have y1:=(World.cell?_setCell_far w2 ⟨ob,7,none⟩ ⟨w.heap.size,0,none⟩ (.slice a2 cl.length k2) (by simpa using hns.symm)).trans s0
 have y2:=(World.cell?_setCell_far w2 ⟨ob,7,none⟩ ⟨w.heap.size,1,none⟩ (.slice a2 cl.length k2) (by simpa using hns.symm)).trans s1
 have y3:=(World.cell?_setCell_far w2 ⟨ob,7,none⟩ ⟨w.heap.size,2,none⟩ (.slice a2 cl.length k2) (by simpa using hns.symm)).trans s2
 clear p0 w0 w1' w2' s0 s1 s2 o7 o8 o7f hF2;generalize (w2.setCell ⟨ob,7,none⟩ (.slice a2 cl.length k2))=V at *;have y8:V.cell? ⟨ob,8,none⟩=some (.slice g j i):=by rw[qzB hBV];rfl
 have hadd:=fun w' (hb:Below V.heap.size V w')=>xrm st.ts _ s c w' (hT3.later xbD hb) (by have:=H.out.few.t;omega) (fun x hx=>by have:=H.out.few.tl x hx;omega)
 have HBV:=hid hBV;have yf:=xaq hBV;have HKV:=hid hKV;have HVZ:=hid hKV.size;clear hBV hKV;have hS0:V.drew.cell? ⟨pb,0,none⟩=some (.pointer (some ⟨ob,0,none⟩))/\V.drew.cell? ⟨w.heap.size,0,none⟩=some (.int .i64 s.cls)/\V.drew.cell? ⟨w.heap.size,1,none⟩=some (.string s.name)/\V.drew.cell? ⟨w.heap.size,2,none⟩=some (.int .i64 s.at')/\V.drew.cell? ⟨ob,8,none⟩=some (.slice g j i):=⟨y0,y1,y2,y3,y8⟩;refine xat (S:=fun w'=>w'.cell? ⟨pb,0,none⟩=some (.pointer (some ⟨ob,0,none⟩))/\w'.cell? ⟨w.heap.size,0,none⟩=some (.int .i64 s.cls)/\w'.cell? ⟨w.heap.size,1,none⟩=some (.string s.name)/\w'.cell? ⟨w.heap.size,2,none⟩=some (.int .i64 s.at')/\w'.cell? ⟨ob,8,none⟩=some (.slice g j i)) [10] (by kernel_rfl) ?_
 refine tk 0 (⟨some 32,.load 183 (.tmp 3),183,_,_,none⟩) (.pointer (some ⟨ob,0,none⟩)) rfl (hS0) (fun _ _ _ h=>h) rfl (by kernel_rfl) ?_ ?_
 ·intro w hSw;obtain⟨q0,q1,q2,q3,q4⟩:=hSw;go_simp
 try simp only[Act.put,qzF,qzG,qzH]
 refine tk 1 (⟨some 33,.load 183 (.tmp 3),183,_,_,none⟩) (.pointer (some ⟨ob,0,none⟩)) rfl (hS0) (fun _ _ _ h=>h) rfl (by kernel_rfl) ?_ ?_
 ·intro w hSw;obtain⟨q0,q1,q2,q3,q4⟩:=hSw;go_simp
 try simp only[Act.put,qzF,qzG,qzH]
 refine tk 2 (⟨some 34,.nilCheck (.tmp 33),0,_,_,none⟩) (.pointer (some ⟨ob,0,none⟩)) rfl (hS0) (fun _ _ _ h=>h) rfl (by kernel_rfl) ?_ ?_
 ·intro w hSw;obtain⟨q0,q1,q2,q3,q4⟩:=hSw;go_simp
 try simp only[Act.put,qzF,qzG,qzH]
 refine tk 3 (⟨some 35,.fieldAddr 100 (.tmp 34) 3,0,_,_,none⟩) (.pointer (some ⟨ob,8,none⟩)) rfl (hS0) (fun _ _ _ h=>h) rfl (by kernel_rfl) ?_ ?_
 ·intro w hSw;obtain⟨q0,q1,q2,q3,q4⟩:=hSw;go_simp
 try simp only[Act.put,qzF,qzG,qzH]
 refine tk 4 (⟨some 36,.load 28 (.tmp 35),28,_,_,none⟩) (.slice g j i) rfl (hS0) (fun _ _ _ h=>h) rfl (by kernel_rfl) ?_ ?_
 ·intro w hSw;obtain⟨q0,q1,q2,q3,q4⟩:=hSw;go_simp
 try simp only[Act.put,qzF,qzG,qzH]
 refine tk 5 (⟨some 37,.load 105 (.tmp 5),105,_,_,none⟩) (SV s) rfl (hS0) (fun _ _ _ h=>h) rfl (by kernel_rfl) ?_ ?_
 ·intro w hSw;obtain⟨q0,q1,q2,q3,q4⟩:=hSw;go_simp
 try simp only[Act.put,qzF,qzG,qzH]
 refine tk 6 (⟨some 38,.move (.tmp 1),3,_,_,none⟩) (.int .i64 c) rfl (hS0) (fun _ _ _ h=>h) rfl (by kernel_rfl) ?_ ?_
 ·intro w hSw;obtain⟨q0,q1,q2,q3,q4⟩:=hSw;go_simp
 try simp only[Act.put,qzF,qzG,qzH]
 refine xao (rs:=[7]) (by kernel_rfl) (by simp) ?_
 intro i hi;simp only[List.mem_cons,List.not_mem_nil,or_false] at hi;subst hi;refine xa0 (o:=⟨some 39,.call ⟨.value (.func 145),#[.tmp 36,.tmp 37,.tmp 38],#[28,105,3]⟩,28,_,_,none⟩) rfl (fun K' hK=>?_)
 go_simp
 go_at_call 145
 refine (hadd _ (Below.refl _ V).drew).mono ?_;rintro e w3 ⟨g3,c3,rfl,hc3,hb3⟩;have hB3:=xaa (show V.drew.heap[ob]?=_ from HBV.out) hb3
 have hS1:=And.intro (qzA hb3 hS0.1) (And.intro (qzA hb3 hS0.2.1) (And.intro (qzA hb3 hS0.2.2.1) (And.intro (qzA hb3 hS0.2.2.2.1) (qzA hb3 hS0.2.2.2.2))));dsimp only;refine hK _ _ (fun _=>?_) ?_
 ·exact hS1
 clear hK K'
 try simp only[Act.put,qzF,qzG,qzH]
 refine tk 8 (⟨some 40,.nilCheck (.tmp 32),0,_,_,none⟩) (.pointer (some ⟨ob,0,none⟩)) rfl (hS1) (fun _ _ _ h=>h) rfl (by kernel_rfl) ?_ ?_
 ·intro w hSw;obtain⟨q0,q1,q2,q3,q4⟩:=hSw;go_simp
 try simp only[Act.put,qzF,qzG,qzH]
 refine tk 9 (⟨some 41,.fieldAddr 100 (.tmp 40) 3,0,_,_,none⟩) (.pointer (some ⟨ob,8,none⟩)) rfl (hS1) (fun _ _ _ h=>h) rfl (by kernel_rfl) ?_ ?_
 ·intro w hSw;obtain⟨q0,q1,q2,q3,q4⟩:=hSw;go_simp
 try simp only[Act.put,qzF,qzG,qzH]
 refine xao (rs:=[10]) (by kernel_rfl) (by simp) ?_
 intro i hi;simp only[List.mem_cons,List.not_mem_nil,or_false] at hi;subst hi;refine xa0 (o:=⟨none,.store 28 (.tmp 41) (.tmp 39),0,_,_,none⟩) rfl (fun K' hK=>?_)
 have z8:=hS1.2.2.2.2;have zf:=xaq hB3;go_simp;refine hK _ _ (fun h=>absurd h (by decide)) ?_
 clear hK K'
 try simp only[Act.put,qzF,qzG,qzH]
 refine xaE (by kernel_rfl) ?_ _
 try simp only[Act.put,qzF,qzG,qzH]
 have hE1:Ext T (xbc T W.drew 0) W.drew:=xaQ T W.drew 0;have hE0:Hid (Ext T (xbc T W.drew 0) w):=fun b hb=>xaQ T W.drew 0 b (qzE hb HB1.out.size)
 have z0:=hS1.1;clear hS0 hS1 y0 y1 y2 y3 y8 yf hadd;have hB4:=xqK hB3 (.slice (some ⟨g3,0,none⟩) (xem st.ts s c).length c3) (xem st.ts s c);have hlo:=HWZ.out;have hVz:=HVZ.out;have HC3:Hid (xbG (fun b=>W.drew.heap.size<=b) (w3.setCell ⟨ob,8,none⟩ (.slice (some ⟨g3,0,none⟩) (xem st.ts s c).length c3)) (.slice a2 cl.length k2) cl):=(HC2.out.later xbF ((Below.refl _ V).drew.trans hb3)).keep xbF (xas (Keeps.refl _ _) (by omega) _) fun _ h=>h
 have HT3:Hid (xaI (fun b=>W.drew.heap.size<=b) (w3.setCell ⟨ob,8,none⟩ (.slice (some ⟨g3,0,none⟩) (xem st.ts s c).length c3)) (.slice (some ⟨g3,0,none⟩) (xem st.ts s c).length c3) (xem st.ts s c)):=hc3.keep xbD (xas (Keeps.refl _ _) (by show ¬ V.heap.size<=ob;omega) _) fun _ h=>qzD hVz h
 have HK3:Hid (Kp (fun t=>t=3) T w (w3.setCell ⟨ob,8,none⟩ (.slice (some ⟨g3,0,none⟩) (xem st.ts s c).length c3))):=(HK2.out.on ((Below.refl _ V).drew.trans hb3)).set (fun _=>H.out.to3) _ _
 have HKW:Hid (Kp (fun t=>t=3) T W.drew (w3.setCell ⟨ob,8,none⟩ (.slice (some ⟨g3,0,none⟩) (xem st.ts s c).length c3))):=(HKV.out.on ((Below.refl _ V).drew.trans hb3)).set (fun _=>H.out.to3) _ _
 have u0:=(World.cell?_setCell_far w3 ⟨ob,8,none⟩ ⟨pb,0,none⟩ (.slice (some ⟨g3,0,none⟩) (xem st.ts s c).length c3) (by simpa using hne.symm)).trans z0
 clear z0 hc3 hb3 hB3;generalize (w3.setCell ⟨ob,8,none⟩ (.slice (some ⟨g3,0,none⟩) (xem st.ts s c).length c3))=U at *;have hfh:=H.out.few.h;have hfk:=H.out.few.k;have u9:U.cell? ⟨ob,9,none⟩=some (.int .i64 st.hits):=by rw[qzB hB4];rfl
 have u10:U.cell? ⟨ob,10,none⟩=some (.int .i64 st.nots):=by rw[qzB hB4];rfl
 have uf:=xaq hB4;have hw9:IntKind.i64.wrap (st.hits+1)=st.hits+1:=xal (by omega) (by omega)
 have hw10:IntKind.i64.wrap (st.nots+1)=st.nots+1:=xal (by omega) (by omega)
 have HB4:=hid hB4;have HFW:=hid (H.out.few.look X s c name);have HST:Hid ((xcK X st s c name).1=⟨cl,xem st.ts s c,if kn then st.hits+1 else st.hits,if kn then st.nots else st.nots+1⟩):=by show _=_;unfold xcK;rw[hcf]
 have HFin:Hid (∀ (o:Nat) (v:Value) (st':CSt),st'.cells=cl->st'.ts=xem st.ts s c->CFew st' n->(U.setCell ⟨ob,o,none⟩ v).heap[ob]?=some (OB (.slice a2 cl.length k2) (.slice (some ⟨g3,0,none⟩) (xem st.ts s c).length c3) st')->(∃ T',Ext T T' w/\LcP X pb wb ob lo (.slice ac X.cz.length cc) (.slice ah X.heap.length ch) T' (U.setCell ⟨ob,o,none⟩ v) st' n)/\Kp (fun t=>t=3) T w (U.setCell ⟨ob,o,none⟩ v)):=fun o v st' e1 e2 hf hB=>by
  have kU:Kp (fun t=>t=3) T W.drew (U.setCell ⟨ob,o,none⟩ v):=HKW.out.set (fun _=>H.out.to3) _ _
  have hz:(U.setCell ⟨ob,o,none⟩ v).heap.size=U.heap.size:=by simp
  refine⟨⟨xbc T W.drew 0,hE0.out,⟨by rw[hE0.out _ H.out.lp];exact H.out.tp,qzE H1.out.lp kU.size,(World.cell?_setCell_far U ⟨ob,o,none⟩ ⟨pb,0,none⟩ v (by simpa using hne.symm)).trans u0,H1.out.lk.keep hE1 kU (by omega),by rw[hE0.out _ hlt];exact H.out.to3,qzD H1.out.ll kU.size,⟨_,_,_,_,_,_,hB,?_,?_⟩,hf⟩⟩,HK3.out.set (fun _=>H.out.to3) _ _⟩
  ·rw[e1]
   exact (xjx (HC3.out.keep xbF (xas (Keeps.refl _ _) (by omega) _) fun _ h=>h)).mono xbF fun b hb=>⟨qzD H1.out.ll hb.1,hb.2,xba hb.1⟩
  ·rw[e2]
   exact (xhD (HT3.out.keep xbD (xas (Keeps.refl _ _) (by omega) _) fun _ h=>h)).mono xbD fun b hb=>⟨qzD H1.out.ll hb.1,hb.2,xba hb.1⟩
 clear hB4 hcf hfh hfk hlo hVz hE1
 cases kn with
 | true=>
  have Q:=hid (HFin.out 9 (.int .i64 (st.hits+1)) ⟨cl,xem st.ts s c,st.hits+1,st.nots⟩ rfl rfl (by have:=HFW.out;rw[HST.out] at this;exact this) (xrj HB4.out _))
  clear HFin;go_wp2;refine bodyPost_ret (v:=.tuple #[.int .i64 f1,.int .i64 f2]) (by simp[results,Tryz.results143,go_sem]) rfl ⟨by rw[HLK.out],?_⟩
  rw[HST.out]
  exact Q.out
 | false=>
  have Q:=hid (HFin.out 10 (.int .i64 (st.nots+1)) ⟨cl,xem st.ts s c,st.hits,st.nots+1⟩ rfl rfl (by have:=HFW.out;rw[HST.out] at this;exact this) (xpi HB4.out _))
  clear HFin;go_wp2;refine bodyPost_ret (v:=.tuple #[.int .i64 f1,.int .i64 f2]) (by simp[results,Tryz.results143,go_sem]) rfl ⟨by rw[HLK.out],?_⟩
  rw[HST.out]
  exact Q.out
theorem xfu {fn:Nat}{f:Func}(hf:Tryz.prog.funcs[fn]?=some f)(hn:(f.name == "runtime.NumGoroutine")=false)(hb:f.body.isSome=true)(args:Array Value)(w:World):(callFunc fn args).run Tryz.prog w=.ok (.enter fn args) w:=by
 have h1:¬ f.name = "runtime.NumGoroutine" := by simpa using hn
 have h2:¬ f.body=none:=by intro h;rw[h] at hb;cases hb
 simp[callFunc,hf,h1,h2]
theorem xgI {X:QW}(h:xau X=0){c n:Int}{m:QM}(hm:xaz X.cz c n=some m):m.code.length<=60:=by
 obtain⟨hs,-,hk,-⟩:=xbX h;obtain⟨kc,kn,x,rfl,rfl,hx,hxm⟩:=xhh hm;have h1:=hk kc x (xad hx) hx;unfold rkE at h1
 split at h1
 ·cases h1
 ·split at h1
  ·cases h1
  ·have h2:=xbH h1 kn m hxm;unfold rmE at h2
   split at h2
   ·cases h2
   ·split at h2
    ·rename_i hp
     have:m.code.length=0:=by
      unfold xmS at hp;rw[List.any_eq_true] at hp;obtain⟨p,-,hp⟩:=hp
      simp at hp
      simp[hp]
     omega
    ·unfold xce at h2
     split at h2
     ·rename_i hw;exact absurd h2 hw
     ·rename_i hw;have:=xiN (by simpa using hw)
      omega
theorem xio {σ:Type}{p:Mp σ}(hq:∀ c k,p.E.quick c k=none)(T:Nat->Nat)(w:World)(st:σ)(c k:Int)(mt:QM)(n:Nat):Calls Tryz.prog 110 (#[.int .i64 c,.int .i64 k]++#[]) w fun e w'=>(∃ fc fn fe ft av nv cv,e=.returned (.tuple #[FaV fc fn fe ft (.slice av nv cv),.bool (p.E.quick c k).isSome])/\∀ q,p.E.quick c k=some q->ft=q.2/\xaG (Fx T w') w' (.slice av nv cv) q.1)/\Below w.heap.size w w':=by
 refine (xo9 c k w).mono ?_;rintro e w' ⟨rfl,hb⟩;refine⟨⟨0,⟨#[]⟩,0,0,none,0,0,by rw[hq];rfl,fun q h=>?_⟩,hb⟩
 rw[hq] at h;cases h
theorem xmh (X:QW)(pb wb ob lo:Nat)(cv hv:Value):Lok (LcP X pb wb ob lo cv hv):=⟨fun h e k h0 h3=>h.keep e k h0 h3,fun h hn=>h.mono hn⟩
theorem xoO {X:QW}(hX:xau X=0){fuel:Int}(hf:fuel<=400)(pb wb ob lo:Nat)(cv hv cv':Value):Cx (⟨xay X fuel,cv',X.ez,.func (.func 143) #[] #[.pointer (some ⟨pb,0,none⟩),.pointer (some ⟨wb,0,none⟩)],.func (.func 110) #[] #[]⟩:Mp CSt) (LcP X pb wb ob lo cv hv) 143 #[.pointer (some ⟨pb,0,none⟩),.pointer (some ⟨wb,0,none⟩)] 110 #[] where
 lv:=rfl
 qv:=rfl
 lcf:=xfu Tryz.func143 (by kernel_rfl) (by kernel_rfl)
 qcf:=xfu Tryz.func110 (by kernel_rfl) (by kernel_rfl)
 ok:=xiV hX fuel _
 fuel:=by show fuel<=_;omega
 keep h e k h0 h3:=h.keep e k h0 h3
 mono h hn:=h.mono hn
 look T w st s c name n h:=xjz h s c name
 quick T w st c k mt n _ _:=xio (fun _ _=>rfl) T w st c k mt n
 few c k mt hm:=⟨by have:=xgI hX hm;omega,fun q h=>by cases h⟩
theorem xkv (ac:Option Addr)(nc cc:Nat)(ah:Option Addr)(nh ch:Nat)(ep:Int)(ob:Nat)(w:World):Calls Tryz.prog 111 #[WV (.slice ac nc cc) (.slice ah nh ch) ep,.pointer (some ⟨ob,0,none⟩)] w fun e w'=>e=.returned (.func (.func 143) #[] #[.pointer (some ⟨w.heap.size+1,0,none⟩),.pointer (some ⟨w.heap.size,0,none⟩)])/\w'.cell? ⟨w.heap.size,0,none⟩=some (.slice ac nc cc)/\w'.cell? ⟨w.heap.size,1,none⟩=some (.slice ah nh ch)/\w'.cell? ⟨w.heap.size,2,none⟩=some (.int .i64 ep)/\w'.cell? ⟨w.heap.size+1,0,none⟩=some (.pointer (some ⟨ob,0,none⟩))/\w.heap.size+2<=w'.heap.size/\Below w.heap.size w w':=by
 go_enter Tryz.func111,Tryz.ntmps111;go_wp2
 go_ret
 exact⟨rfl,qzA (xai _ _) (xab w #[.slice ac nc cc,.slice ah nh ch,.int .i64 ep] 26 _ rfl 0),qzA (xai _ _) (xab w #[.slice ac nc cc,.slice ah nh ch,.int .i64 ep] 26 _ rfl 1),qzA (xai _ _) (xab w #[.slice ac nc cc,.slice ah nh ch,.int .i64 ep] 26 _ rfl 2),xab _ _ _ _ (by simp) 0,by simp,xbp _ _ _⟩
def xkr (ob:Nat):Nat->Nat:=fun b=>if b=ob then 3 else 0
theorem xgK (ob:Nat):xkr ob ob=3:=by simp[xkr]
theorem xbi {ob b:Nat}(h:b≠ob):xkr ob b=0:=by simp[xkr,h]
theorem xrp (ob b:Nat):xkr ob b=0\/xkr ob b=3:=by unfold xkr;split<;>simp
abbrev CaV (cv hv:Value)(ep:Int)(r:Ran)(lv tv:Value)(h k:Int):Value:=.agg #[cv,hv,.int .i64 ep,.int .i64 r.v.k,.int .i64 r.v.n,.int .i64 r.err,.int .i64 r.sz_,lv,tv,.int .i64 h,.int .i64 k]
def xqt (w:World)(X:QW)(r:Ran × CSt)(e:Ending)(w':World):Prop:=
 Below w.heap.size w w'/\∃ cv hv lv tv,e=.returned (CaV cv hv X.ez r.1 lv tv r.2.hits r.2.nots)/\xag (fun b=>w.heap.size<=b) w' cv X.cz/\xav (fun b=>w.heap.size<=b) w' hv r.1.heap/\xbG (fun b=>w.heap.size<=b) w' lv r.2.cells/\xaI (fun b=>w.heap.size<=b) w' tv r.2.ts
structure CrR (w:World)(cv hv:Value)(ep:Int)(s:QV)(name:ByteArray)(av:Value)(w':World):Prop where
 w0:w'.cell? ⟨w.heap.size,0,none⟩=some cv
 w1:w'.cell? ⟨w.heap.size,1,none⟩=some hv
 w2:w'.cell? ⟨w.heap.size,2,none⟩=some (.int .i64 ep)
 c0:w'.cell? ⟨w.heap.size+1,0,none⟩=some (.int .i64 s.k)
 c1:w'.cell? ⟨w.heap.size+1,1,none⟩=some (.int .i64 s.n)
 c2:w'.cell? ⟨w.heap.size+1,2,none⟩=some (.string name)
 c3:w'.cell? ⟨w.heap.size+1,3,none⟩=some av
theorem CrR.al {w:World}{cv hv:Value}{ep:Int}{s:QV}{name:ByteArray}{av:Value}{w':World}(h:CrR w cv hv ep s name av w'):w'.cell? ⟨w.heap.size,0,none⟩=some cv/\w'.cell? ⟨w.heap.size,1,none⟩=some hv/\w'.cell? ⟨w.heap.size,2,none⟩=some (.int .i64 ep)/\w'.cell? ⟨w.heap.size+1,0,none⟩=some (.int .i64 s.k)/\w'.cell? ⟨w.heap.size+1,1,none⟩=some (.int .i64 s.n)/\w'.cell? ⟨w.heap.size+1,2,none⟩=some (.string name)/\w'.cell? ⟨w.heap.size+1,3,none⟩=some av:=⟨h.w0,h.w1,h.w2,h.c0,h.c1,h.c2,h.c3⟩
theorem CrR.kp {w:World}{cv hv:Value}{ep:Int}{s:QV}{name:ByteArray}{av:Value}{w' w'':World}{S:Nat->Prop}{T:Nat->Nat}(h:CrR w cv hv ep s name av w')(k:Kp S T w' w'')(h0:¬ S (T w.heap.size))(h1:¬ S (T (w.heap.size+1))):CrR w cv hv ep s name av w'':=⟨k.cell h.w0 h0,k.cell h.w1 h0,k.cell h.w2 h0,k.cell h.c0 h1,k.cell h.c1 h1,k.cell h.c2 h1,k.cell h.c3 h1⟩
theorem CrR.set {w:World}{cv hv:Value}{ep:Int}{s:QV}{name:ByteArray}{av:Value}{w':World}(h:CrR w cv hv ep s name av w'){b:Nat}(hb:w.heap.size+2<=b)(o:Nat)(u:Value):CrR w cv hv ep s name av (w'.setCell ⟨b,o,none⟩ u):=
 ⟨(World.cell?_setCell_far _ _ _ _ (by simp;omega)).trans h.w0,(World.cell?_setCell_far _ _ _ _ (by simp;omega)).trans h.w1,(World.cell?_setCell_far _ _ _ _ (by simp;omega)).trans h.w2,(World.cell?_setCell_far _ _ _ _ (by simp;omega)).trans h.c0,(World.cell?_setCell_far _ _ _ _ (by simp;omega)).trans h.c1,(World.cell?_setCell_far _ _ _ _ (by simp;omega)).trans h.c2,(World.cell?_setCell_far _ _ _ _ (by simp;omega)).trans h.c3⟩
theorem xqq {w:World}{ob:Nat}{lv tv:Value}{st:CSt}(h:w.heap[ob]?=some (OB lv tv st)):w.cell? ⟨ob,0,none⟩=some (.slice none 0 0)/\w.cell? ⟨ob,1,none⟩=some (.slice none 0 0)/\w.cell? ⟨ob,2,none⟩=some (.int .i64 0)/\w.cell? ⟨ob,3,none⟩=some (.int .i64 0)/\w.cell? ⟨ob,4,none⟩=some (.int .i64 0)/\w.cell? ⟨ob,5,none⟩=some (.int .i64 0)/\w.cell? ⟨ob,6,none⟩=some (.int .i64 0)/\w.cell? ⟨ob,7,none⟩=some lv/\w.cell? ⟨ob,8,none⟩=some tv/\w.cell? ⟨ob,9,none⟩=some (.int .i64 st.hits)/\w.cell? ⟨ob,10,none⟩=some (.int .i64 st.nots):=by
 refine⟨?_,?_,?_,?_,?_,?_,?_,?_,?_,?_,?_⟩<;>(rw[qzB h];rfl)
abbrev OB2 (cv hv:Value)(ep:Int)(r:Ran)(lv tv:Value)(st:CSt):Obj:=.cells #[cv,hv,.int .i64 ep,.int .i64 r.v.k,.int .i64 r.v.n,.int .i64 r.err,.int .i64 r.sz_,lv,tv,.int .i64 st.hits,.int .i64 st.nots] 100 (0,0)
structure CaR (ob:Nat)(cv hv:Value)(ep:Int)(r:Ran)(lv tv:Value)(st:CSt)(w U:World):Prop where
 box:U.heap[ob]?=some (OB2 cv hv ep r lv tv st)
 kp:∀ (T:Nat->Nat),T ob=3->Kp (fun t=>t=3) T w U
theorem caA {w:World}{ob:Nat}{lv tv:Value}{st:CSt}(h:w.heap[ob]?=some (OB lv tv st))(cv hv:Value)(ep:Int)(r:Ran):CaR ob cv hv ep r lv tv st w (((((((w.setCell ⟨ob,0,none⟩ cv).setCell ⟨ob,1,none⟩ hv).setCell ⟨ob,2,none⟩ (.int .i64 ep)).setCell ⟨ob,3,none⟩ (.int .i64 r.v.k)).setCell ⟨ob,4,none⟩ (.int .i64 r.v.n)).setCell ⟨ob,5,none⟩ (.int .i64 r.err)).setCell ⟨ob,6,none⟩ (.int .i64 r.sz_)):=
 ⟨by rw[xae (xae (xae (xae (xae (xae (xae h _) _) _) _) _) _) _];rfl,fun T ht=>(((((((Kp.refl _ _ _).set (fun _=>ht) _ _).set (fun _=>ht) _ _).set (fun _=>ht) _ _).set (fun _=>ht) _ _).set (fun _=>ht) _ _).set (fun _=>ht) _ _).set (fun _=>ht) _ _⟩
theorem xr4 {w:World}{ob:Nat}{cv hv:Value}{ep:Int}{r:Ran}{lv tv:Value}{st:CSt}(h:w.heap[ob]?=some (OB2 cv hv ep r lv tv st)):w.cell? ⟨ob,0,none⟩=some cv/\w.cell? ⟨ob,1,none⟩=some hv/\w.cell? ⟨ob,2,none⟩=some (.int .i64 ep)/\w.cell? ⟨ob,3,none⟩=some (.int .i64 r.v.k)/\w.cell? ⟨ob,4,none⟩=some (.int .i64 r.v.n)/\w.cell? ⟨ob,5,none⟩=some (.int .i64 r.err)/\w.cell? ⟨ob,6,none⟩=some (.int .i64 r.sz_)/\w.cell? ⟨ob,7,none⟩=some lv/\w.cell? ⟨ob,8,none⟩=some tv/\w.cell? ⟨ob,9,none⟩=some (.int .i64 st.hits)/\w.cell? ⟨ob,10,none⟩=some (.int .i64 st.nots):=by
 refine⟨?_,?_,?_,?_,?_,?_,?_,?_,?_,?_,?_⟩<;>(rw[qzB h];rfl)
theorem xmQ {P Q R S:Nat->Prop}(X:QW)(hX:xau X=0)(s:QV)(name:ByteArray)(args:List QV)(fuel:Int)(l:List QE)(ts:List QT)(cv hv av lv tv:Value)(w:World)(hC:xag P w cv X.cz)(hH:xav P w hv X.heap)(hA:xaV Q w av args)(hl:xbG R w lv l)(ht:xaI S w tv ts)(hn:name.size<=140737488351232)(hf:CFew ⟨l,ts,0,0⟩ 400) :
  Calls Tryz.prog 86 #[WV cv hv X.ez,ClV s name av,.int .i64 fuel,lv,tv] w fun e w'=>xqt w X (xcb (xay X fuel) X ⟨l,ts,0,0⟩ s name args fuel) e w':=by
 obtain⟨ac,cc,rfl,-,-,hby,-⟩:=id hC;obtain⟨ah,ch,rfl,-,-,hbyh,-⟩:=id hH;obtain⟨aa,ca,rfl,-⟩:=id hA;obtain⟨al,kl,rfl,-⟩:=id hl;obtain⟨at',kt,rfl,-⟩:=id ht;have hbW:Below w.heap.size w (((w.alloc (.cells #[.slice ac X.cz.length cc,.slice ah X.heap.length ch,.int .i64 X.ez] 26)).alloc (.cells #[.int .i64 s.k,.int .i64 s.n,.string name,.slice aa args.length ca] 54)).alloc (.cells #[.slice none 0 0,.slice none 0 0,.int .i64 0,.int .i64 0,.int .i64 0,.int .i64 0,.int .i64 0,.slice none 0 0,.slice none 0 0,.int .i64 0,.int .i64 0] 100)):=xaf (xbp _ _ _) (xai _ _)
 have hR0:CrR w (.slice ac X.cz.length cc) (.slice ah X.heap.length ch) X.ez s name (.slice aa args.length ca) (((w.alloc (.cells #[.slice ac X.cz.length cc,.slice ah X.heap.length ch,.int .i64 X.ez] 26)).alloc (.cells #[.int .i64 s.k,.int .i64 s.n,.string name,.slice aa args.length ca] 54)).alloc (.cells #[.slice none 0 0,.slice none 0 0,.int .i64 0,.int .i64 0,.int .i64 0,.int .i64 0,.int .i64 0,.slice none 0 0,.slice none 0 0,.int .i64 0,.int .i64 0] 100)):=by
  obtain⟨-,w0,w1,w2,c0,c1,c2,c3⟩:=xk2 w (.slice ac X.cz.length cc) (.slice ah X.heap.length ch) X.ez s name (.slice aa args.length ca)
  exact⟨qzA (xai _ _) w0,qzA (xai _ _) w1,qzA (xai _ _) w2,qzA (xai _ _) c0,qzA (xai _ _) c1,qzA (xai _ _) c2,qzA (xai _ _) c3⟩
 have hz:(((w.alloc (.cells #[.slice ac X.cz.length cc,.slice ah X.heap.length ch,.int .i64 X.ez] 26)).alloc (.cells #[.int .i64 s.k,.int .i64 s.n,.string name,.slice aa args.length ca] 54)).alloc (.cells #[.slice none 0 0,.slice none 0 0,.int .i64 0,.int .i64 0,.int .i64 0,.int .i64 0,.int .i64 0,.slice none 0 0,.slice none 0 0,.int .i64 0,.int .i64 0] 100)).heap.size=w.heap.size+3:=by simp
 have hr0:(((w.alloc (.cells #[.slice ac X.cz.length cc,.slice ah X.heap.length ch,.int .i64 X.ez] 26)).alloc (.cells #[.int .i64 s.k,.int .i64 s.n,.string name,.slice aa args.length ca] 54)).alloc (.cells #[.slice none 0 0,.slice none 0 0,.int .i64 0,.int .i64 0,.int .i64 0,.int .i64 0,.int .i64 0,.slice none 0 0,.slice none 0 0,.int .i64 0,.int .i64 0] 100)).heap[w.heap.size+2]?=some (.cells #[.slice none 0 0,.slice none 0 0,.int .i64 0,.int .i64 0,.int .i64 0,.int .i64 0,.int .i64 0,.slice none 0 0,.slice none 0 0,.int .i64 0,.int .i64 0] 100 (0,0)):=xaR _ _ _ (by simp)
 go_enter Tryz.func86,Tryz.ntmps86
 go_upto_region 1 with (fail)
 generalize (((w.alloc (.cells #[.slice ac X.cz.length cc,.slice ah X.heap.length ch,.int .i64 X.ez] 26)).alloc (.cells #[.int .i64 s.k,.int .i64 s.n,.string name,.slice aa args.length ca] 54)).alloc (.cells #[.slice none 0 0,.slice none 0 0,.int .i64 0,.int .i64 0,.int .i64 0,.int .i64 0,.int .i64 0,.slice none 0 0,.slice none 0 0,.int .i64 0,.int .i64 0] 100))=W at *;go_wp2_with fail;refine (xdl l _ W (hl.later xbF hbW) (by have:=hf.c;simp only at this;omega) (fun x hx=>by have:=hf.cl x hx;omega)).mono ?_
 rintro e w1 ⟨g1,rfl,ho1,hg1,hb1⟩;go_wp2_with fail;refine (xg4 ts _ w1 ((ht.later xbD hbW).later xbD hb1) (by have:=hf.t;simp only at this;omega) (fun x hx=>by have:=hf.tl x hx;omega)).mono ?_
 rintro e w2 ⟨g2,gs2,rfl,ho2,hg2,hb2⟩;have hL1:=xcw (ho1.row0 xcN (by unfold maxLen;have:=hf.c;simp only at this;omega))
 have hT2:=ho2.tallies (P:=fun b=>g2<=b/\b<w2.heap.size) (by unfold maxLen;have:=hf.t;simp only at this;omega) (fun x hx=>by unfold maxLen;have:=hf.tl x hx;omega) fun b h1 h2=>⟨h1,h2⟩
 have hbO:Below w2.heap.size w2 (w2.alloc (OB (.slice (some ⟨g1,0,none⟩) l.length l.length) (.slice (some ⟨g2,0,none⟩) ts.length ts.length) ⟨l,ts,0,0⟩)).drew:=(xai _ _).drew;have hbA:Hid (Below w.heap.size w (w2.alloc (OB (.slice (some ⟨g1,0,none⟩) l.length l.length) (.slice (some ⟨g2,0,none⟩) ts.length ts.length) ⟨l,ts,0,0⟩)).drew):=xaf (xaf (xaf hbW hb1) hb2) hbO;have hbB:Below W.heap.size W (w2.alloc (OB (.slice (some ⟨g1,0,none⟩) l.length l.length) (.slice (some ⟨g2,0,none⟩) ts.length ts.length) ⟨l,ts,0,0⟩)).drew:=xaf (xaf hb1 hb2) hbO;have hR3:=hR0.kp (T:=fun _=>0) (Kp.of_below (S:=fun _=>False) hbB) id id
 have hr3:=xaa hr0 hbB;have hL3:=(hL1.later xbF hb2).later xbF hbO;have hT3:=hT2.later xbD hbO;have hO3:(w2.alloc (OB (.slice (some ⟨g1,0,none⟩) l.length l.length) (.slice (some ⟨g2,0,none⟩) ts.length ts.length) ⟨l,ts,0,0⟩)).drew.heap[w2.heap.size]?=_:=heap_alloc_new w2 _;have hz1:=hb1.size;have hz2:=hb2.size;have hz3:w2.heap.size<(w2.alloc (OB (.slice (some ⟨g1,0,none⟩) l.length l.length) (.slice (some ⟨g2,0,none⟩) ts.length ts.length) ⟨l,ts,0,0⟩)).drew.heap.size:=by simp
 have HC:=hid hC;have HH:=hid hH;have HA:=hid hA;have HL3:=hid hL3;have HT3:=hid hT3;have HO3:=hid hO3;have HR3:=hid hr3;clear hC hH hA hl ht hL1 hT2 ho1 ho2 hR0 hr0 hb1 hb2 hbO hbB hbW hL3 hT3 hO3 hr3
 go_upto_region 2 with (fail)
 generalize (w2.alloc (OB (.slice (some ⟨g1,0,none⟩) l.length l.length) (.slice (some ⟨g2,0,none⟩) ts.length ts.length) ⟨l,ts,0,0⟩))=V at *;generalize w2.heap.size=ob at *;have hfd:=xkv ac X.cz.length cc ah X.heap.length ch X.ez ob V.drew
 have hwi:∀ w3:World,Below V.drew.heap.size V.drew w3->V.drew.heap.size+2<=w3.heap.size->w3.cell? ⟨V.drew.heap.size,0,none⟩=some (.slice ac X.cz.length cc)->w3.cell? ⟨V.drew.heap.size,1,none⟩=some (.slice ah X.heap.length ch)->w3.cell? ⟨V.drew.heap.size,2,none⟩=some (.int .i64 X.ez)->w3.cell? ⟨V.drew.heap.size+1,0,none⟩=some (.pointer (some ⟨ob,0,none⟩))->Calls Tryz.prog 108 #[WV (.slice ac X.cz.length cc) (.slice ah X.heap.length ch) X.ez,ClV s name (.slice aa args.length ca),.int .i64 fuel,.func (.func 143) #[] #[.pointer (some ⟨V.drew.heap.size+1,0,none⟩),.pointer (some ⟨V.drew.heap.size,0,none⟩)],.func (.func 110) #[] #[]] w3 fun e w'=>WiPost (LcP X (V.drew.heap.size+1) V.drew.heap.size ob (w.heap.size+3) (.slice ac X.cz.length cc) (.slice ah X.heap.length ch)) (xkr ob) w3 X (xcb (xay X fuel) X ⟨l,ts,0,0⟩ s name args fuel) e w':=fun w3 hb3 hz4 f0 f1 f2 f3=>by
  have hb03:=xaf hbA.out hb3;have hsz:=hb3.size;have hno:∀ b,b<w.heap.size->(xkr ob) b=0:=fun b hb=>xbi (by omega)
  have k3:xag (Fx (xkr ob) w3) w3 (.slice ac X.cz.length cc) X.cz:=(xdx HC.out).keep xax (Keeps.of_below hb03) fun b hb=>⟨qzE hb hb03.size,hno b hb⟩
  have k4:xav (Fx (xkr ob) w3) w3 (.slice ah X.heap.length ch) X.heap:=(xfO HH.out).keep xaB (Keeps.of_below hb03) fun b hb=>⟨qzE hb hb03.size,hno b hb⟩
  refine xiL (T0:=xkr ob) X hX (xay X fuel) ⟨l,ts,0,0⟩ rfl s name args _ _ _ w3 (fun b _=>xrp ob b) k3 k4 ((xek HA.out).keep xa7 (Keeps.of_below hb03) fun b hb=>⟨qzE hb hb03.size,hno b hb⟩) hn (xmh _ _ _ _ _ _ _) ⟨xbi (by omega),by omega,f3,⟨xbi (by omega),by omega,f0,f1,f2,k3,k4⟩,xgK ob,by omega,⟨_,_,_,_,_,_,xaa HO3.out hb3,(HL3.out.later xbF hb3).mono xbF fun b hb=>⟨by omega,by omega,xbi (by omega)⟩,(HT3.out.later xbD hb3).mono xbD fun b hb=>⟨by omega,by omega,xbi (by omega)⟩⟩,hf.mono (Nat.min_le_right _ _)⟩ (fun _ h4 cv'=>xoO hX h4 _ _ _ _ _ _ cv')
 have HWE:=hid (rfl:xcb (xay X fuel) X ⟨l,ts,0,0⟩ s name args fuel=xcb (xay X fuel) X ⟨l,ts,0,0⟩ s name args fuel);obtain⟨r,hr⟩:∃ r,xcb (xay X fuel) X ⟨l,ts,0,0⟩ s name args fuel=r:=⟨_,rfl⟩;rw[hr] at hwi;have HRR:=hid hr;clear hr HWE;have hS0:=hR3.al;have HZ:=hid hz3;simp only[Nat.add_assoc,Nat.reduceAdd] at *;have tokA:True:=trivial
 go_region_held3 (fun w'=>w'.cell? ⟨w.heap.size,0,none⟩=some (.slice ac X.cz.length cc)/\w'.cell? ⟨w.heap.size,1,none⟩=some (.slice ah X.heap.length ch)/\w'.cell? ⟨w.heap.size,2,none⟩=some (.int .i64 X.ez)/\w'.cell? ⟨w.heap.size+1,0,none⟩=some (.int .i64 s.k)/\w'.cell? ⟨w.heap.size+1,1,none⟩=some (.int .i64 s.n)/\w'.cell? ⟨w.heap.size+1,2,none⟩=some (.string name)/\w'.cell? ⟨w.heap.size+1,3,none⟩=some (.slice aa args.length ca))
  (first | with_reducible exact hS0 | with_reducible exact hR4.al | with_reducible exact hR5.al | with_reducible exact (((hR5.set hob _ _).set hob _ _).set hob _ _).al | with_reducible exact (((((((hR5.set hob _ _).set hob _ _).set hob _ _).set hob _ _).set hob _ _).set hob _ _).set hob _ _).al | with_reducible exact ((((hR5.set hob _ _).set hob _ _).set hob _ _).set hob _ _).al)
  (first
   | (have _t:=tokA;go_at_call 111;refine hfd.mono ?_;rintro e w3 ⟨rfl,f0,f1,f2,f3,fz,hb3⟩;have hR4:=hR3.kp (T:=fun _=>0) (Kp.of_below (S:=fun _=>False) hb3) id id;clear tokA;have tokB:True:=trivial)
   | (have _t:=tokB;go_at_call 108;refine (hwi _ hb3 fz f0 f1 f2 f3).mono ?_;rintro e w4 ⟨hk4,T4,hX4,hL4,cv4,hv4,rfl,hC4,hH4⟩;have hz4:=hb3.size;have hR5:=hR4.kp hk4 (by rw[xbi (by omega)];omega) (by rw[xbi (by omega)];omega);have hob:w.heap.size+2<=ob:=(by omega);obtain⟨a5,m5,k5,g5,j5,i5,hB5,hl5,ht5⟩:=hL4.box;have bf:=xaq hB5;obtain⟨b0,b1,b2,b3,b4,b5,b6,b7,b8,b9,b10⟩:=xqq hB5;obtain⟨a3,k3,rfl,-⟩:=id hC4;obtain⟨a4,k4,rfl,-⟩:=id hH4;have hr5:=hk4.held (xaa HR3.out hb3) (by rw[xbi (by omega)];omega);clear tokB))
 have hU:=caA hB5 (.slice a3 X.cz.length k3) (.slice a4 r.1.heap.length k4) X.ez r.1;generalize (((((((w4.setCell ⟨ob,0,none⟩ (.slice a3 X.cz.length k3)).setCell ⟨ob,1,none⟩ (.slice a4 r.1.heap.length k4)).setCell ⟨ob,2,none⟩ (.int .i64 X.ez)).setCell ⟨ob,3,none⟩ (.int .i64 r.1.v.k)).setCell ⟨ob,4,none⟩ (.int .i64 r.1.v.n)).setCell ⟨ob,5,none⟩ (.int .i64 r.1.err)).setCell ⟨ob,6,none⟩ (.int .i64 r.1.sz_))=U at *;have hkU:=hU.kp (xkr ob) (xgK ob);have hrU:=hkU.held hr5 (by rw[xbi (by omega)];omega)
 obtain⟨d0,d1,d2,d3,d4,d5,d6,d7,d8,d9,d10⟩:=xr4 hU.box;obtain⟨e0,e1,e2,e3,e4,e5,e6,e7,e8,e9,e10⟩:=xqq (st:=⟨[],[],0,0⟩) hrU;have rf:=xaq hrU;have hne:¬ w.heap.size+2=ob:=by omega
 have hne':¬ ob=w.heap.size+2:=by omega
 have HQ:Hid (∀ U',Below w.heap.size U U'->Keeps (fun b=>b≠w.heap.size+2) U U'->xqt w X r (.returned (CaV (.slice a3 X.cz.length k3) (.slice a4 r.1.heap.length k4) X.ez r.1 (.slice a5 m5 k5) (.slice g5 j5 i5) r.2.hits r.2.nots)) U'):=by
  intro U' hb' hk';have hsz:=hb3.size;have hA4:Below w.heap.size w3 w4:=hk4.below (fun b hb=>by rw[xbi (by omega)];omega) (by omega)
  have hA5:Below w.heap.size w4 U:=hkU.below (fun b hb=>by rw[xbi (by omega)];omega) (qzD (by omega) hk4.size)
  have hAA:Below w.heap.size w U':=((((xaf hbA.out hb3).trans hA4).trans hA5).trans hb');have hkk:∀ {P:Nat->Prop},(∀ b,P b->b≠ob)->Keeps P w4 U:=fun hP=>Keeps.of_block fun b hb hl=>hkU.blk b hl (by rw[xbi (hP b hb)];omega)
  have hlo:ob<w3.heap.size:=by omega
  have h44:T4 ob=3:=hL4.to3;have hr2:T4 (w.heap.size+2)=0:=by rw[hX4 _ (by omega)];exact xbi (by omega)
  refine⟨hAA,_,_,_,_,rfl,(hC4.keep xax (hkk fun b hb=>by have:=hb.1;omega) fun _ h=>h).keep xax (hk'.mono fun b hb=>by have:=hb.1;omega) fun b hb=>by have:=hb.1;omega,(hH4.keep xaB (hkk fun b hb=>by have:=hb.1;omega) fun _ h=>h).keep xaB (hk'.mono fun b hb=>by have:=hb.1;omega) fun b hb=>by have:=hb.1;omega,?_,?_⟩
  ·exact (hl5.keep xbF (hkk fun b hb e=>by rw[e] at hb;have:=hb.2.2;rw[h44] at this;omega) fun _ h=>h).keep xbF (hk'.mono fun b hb=>by have:=hb.1;omega) fun b hb=>by have:=hb.1;omega
  ·exact (ht5.keep xbD (hkk fun b hb e=>by rw[e] at hb;have:=hb.2.2;rw[h44] at this;omega) fun _ h=>h).keep xbD (hk'.mono fun b hb=>by have:=hb.1;omega) fun b hb=>by have:=hb.1;omega
 clear hkU hrU hU hB5 hl5 ht5 hL4 hk4 hC4 hH4 hX4 hR3 hR4 hR5 hS0 hwi hfd f0 f1 f2 f3 b0 b1 b2 b3 b4 b5 b6 b7 b8 b9 b10 bf hr5;go_wp2;rw[HRR.out];refine bodyPost_ret (v:=CaV (.slice a3 X.cz.length k3) (.slice a4 r.1.heap.length k4) X.ez r.1 (.slice a5 m5 k5) (.slice g5 j5 i5) r.2.hits r.2.nots) ?_ rfl (HQ.out _ (((((((((((Below.refl _ U).setCell (by simp) _).setCell (by simp) _).setCell (by simp) _).setCell (by simp) _).setCell (by simp) _).setCell (by simp) _).setCell (by simp) _).setCell (by simp) _).setCell (by simp) _).setCell (by simp) _ |>.setCell (by simp) _) (Keeps.of_block fun b hb _=>by rw[xac hb,xac hb,xac hb,xac hb,xac hb,xac hb,xac hb,xac hb,xac hb,xac hb,xac hb]))
 simp[results,Tryz.results86,go_sem,e0,e1,e2,e3,e4,e5,e6,e7,e8,e9,e10]
end Go.Proofs.YtbafokihegegiaaGreatDoor
