/- A part. -/
import Derived.Test.YtbafokihegegiaaGreatDoorT10
import Derived.Deep.RegionWith
namespace Go.Proofs.YtbafokihegegiaaGreatDoor
open Go.ChangeShapes Go.WideShapes Go.ChangeAt Go.RowKit
set_option linter.unusedSimpArgs false
set_option linter.unusedVariables false
set_option maxHeartbeats 8000000
def TrueS (X:QW)(l:List QE):Prop:=∀x∈l,x.ez=X.ez->∀y∈x.lz,∀nm,MX X.cz x.site nm->BF X.cz y.found nm=BF X.cz y.cls nm
theorem Lb (x:QE)(y:QL):(DP x y).site=x.site/\(DP x y).ez=x.ez:=by
 unfold DP;split
 ·exact⟨rfl,rfl⟩
 split<;>exact⟨rfl,rfl⟩
theorem Qb {x:QE}{s:QS}{ep:Int}(b:x.site=s):(FQ x s ep).site=s/\(FQ x s ep).ez=ep/\∀u∈(FQ x s ep).lz,x.ez=ep/\u∈x.lz:=by
 unfold FQ;split
 ·rename_i h;exact⟨b,h,λu a=>⟨h,a⟩⟩
 exact⟨rfl,rfl,λu a=>by simp at a⟩
theorem PC (s:QS)(ep:Int)(y:QL):∀(l:List QE) (z:QE),z∈Dy l s ep y->z∈l\/(z.site=s/\z.ez=ep/\∀u∈z.lz,u=y\/∃x∈l,x.site=s/\x.ez=ep/\u∈x.lz)
 | [],z,h=>by
  simp[Dy] at h;subst h;refine Or.inr ⟨(Lb _ _).1,(Lb _ _).2,λu a=>?_⟩;rcases xex _ _ _ a with h | h
  ·simp at h
  exact Or.inl h
 | x :: r,z,h=>by
  unfold Dy at h;split at h
  ·rename_i d;rw[List.mem_cons] at h;rcases h with rfl | h
   ·have b:=Qb (ep:=ep) ((Kx _ _).1 d);refine Or.inr ⟨(Lb _ _).1.trans b.1,(Lb _ _).2.trans b.2.1,λu a=>?_⟩;rcases xex _ _ _ a with h | h
    ·exact Or.inr ⟨x,by simp,(Kx _ _).1 d,b.2.2 u h⟩
    exact Or.inl h
   exact Or.inl (by simp[h])
  rw[List.mem_cons] at h;rcases h with rfl | h
  ·exact Or.inl (by simp)
  rcases PC s ep y r z h with h | ⟨e,f,g⟩
  ·exact Or.inl (by simp[h])
  refine Or.inr ⟨e,f,λu a=>?_⟩;rcases g u a with h | ⟨x',c,h⟩
  ·exact Or.inl h
  exact Or.inr ⟨x',by simp[c],h⟩
theorem xpD {l:List QE}{s:QS}{ep c:Int}(h:0<=Fb l s ep c):∃x∈l,x.site=s/\x.ez=ep/\∃y∈x.lz,y.cls=c/\y.found=Fb l s ep c:=by
 unfold Fb at h ⊢
 cases a:l.find? λx=>Cw x.site s with
 | none=>rw[a] at h;simp at h
 | some x=>
  rw[a] at h;simp only[Option.map_some,Option.getD_some] at h ⊢;have e:=List.mem_of_find?_eq_some a;have d:x.site=s:=by have h':=List.find?_some a;exact (Kx _ _).1 h'
  by_cases he:x.ez=ep
  ·rw[if_pos he] at h ⊢;unfold Hv at h ⊢
   cases b:x.lz.find? λy=>y.cls == c with
   | none=>rw[b] at h;simp at h
   | some y=>
    refine⟨x,e,d,he,y,List.mem_of_find?_eq_some b,?_,by simp⟩;have:=List.find?_some b;simpa using this
  rw[if_neg he] at h;simp at h
theorem TrueS.find {X:QW}(o:BM X=0){l:List QE}(h:TrueS X l){s:QS}{name:ByteArray}(i:MX X.cz s name)(c:Int):(Dr l X s c name).2.1=BF X.cz c name/\TrueS X (Dr l X s c name).1:=by
 unfold Dr;split
 ·rename_i p;have n:0<=Fb l s X.ez c:=by simp[Dg] at p;omega
  obtain⟨x,e,m,d,y,q,b,g⟩:=xpD n;refine⟨?_,h⟩;show BF X.cz (Fb l s X.ez c) name=_;rw[← g,← b];exact h x e d y q name (by rw[m];exact i)
 split
 ·exact⟨rfl,h⟩
 rename_i t;refine⟨rfl,λz k d u j nm a=>?_⟩;rcases PC _ _ _ _ z k with h' | ⟨b,g,r⟩
 ·exact h z h' d u j nm a
 rw[b] at a;rcases r u j with rfl | ⟨x,e,e1,e2,f⟩
 ·rw[xpE o a i];exact xlh X.cz c name (by omega)
 exact h x e e2 u f nm (by rw[e1];exact a)
structure CSt where
 cells:List QE
 ts:List QT
 hits:Int
 nots:Int
def Ey (X:QW)(st:CSt)(s:QS)(c:Int)(name:ByteArray):CSt × (Int × Int):=
 (⟨(Dr st.cells X s c name).1,DL st.ts s c,if (Dr st.cells X s c name).2.2 then st.hits+1 else st.hits,if (Dr st.cells X s c name).2.2 then st.nots else st.nots+1⟩,(Dr st.cells X s c name).2.1)
def Ds (X:QW)(fuel:Int):Env CSt:=⟨X.cz,fuel,Ey X,NX⟩
abbrev KP:=QS × Int × ByteArray
def MQ (X:QW)(fuel:Int):Env (List KP):=⟨X.cz,fuel,λq s c nm=>(q++[(s,c,nm)],BF X.cz c nm),NX⟩
def EG (X:QW)(st:CSt)(q:List KP):CSt:=q.foldl (λst a=>(Ey X st a.1 a.2.1 a.2.2).1) st
theorem xjo {cs:List QC}{c n:Int}{m:QM}(h:Cp cs c n=some m){k:Nat}{x:QI}(b:m.code[k]?=some x)(a:x.op=14):MX cs ⟨c,m.name,k⟩ x.name:=⟨n,m,k,x,h,rfl,rfl,b,a,rfl⟩
theorem xno {X:QW}(f:BM X=0)(fuel:Int)(st0:CSt):ER (λ(q:List KP) st=>st=EG X st0 q/\TrueS X st.cells) (MX X.cz) (MQ X fuel) (Ds X fuel) where
 cz:=rfl
 fuel:=rfl
 quick:=rfl
 look:=λq st s c name h b=>by
  obtain⟨d,i⟩:=TrueS.find f h.2 b c;refine⟨d,?_,i⟩;show (Ey X st s c name).1=EG X st0 (q++[(s,c,name)]);unfold EG;rw[List.foldl_append,h.1];rfl
 plain:=λc n m h k x e a=>xjo h e a
 fast:=λc n m q h g=>by cases g
theorem xsi (X:QW)(fuel:Int):ER (λ(_:Unit) (_:List KP)=>True) (MX X.cz) (Ht X fuel) (MQ X fuel) where
 cz:=rfl
 fuel:=rfl
 quick:=rfl
 look:=λ_ _ _ _ _ _ _=>⟨rfl,trivial⟩
 plain:=λc n m h k x b a=>xjo h b a
 fast:=λc n m q h d=>by cases d
def Hl (X:QW)(a:KP):Bool:=decide ((BF X.cz a.2.1 a.2.2).1<0)
theorem xqH (X:QW)(fuel:Int):Cnt (MQ X fuel) List.length (λq=>q.countP (Hl X)) where
 a:=λst s c nm=>by simp[MQ]
 b:=λst s c nm=>by
  simp only[MQ,List.countP_append,List.countP_cons,List.countP_nil];by_cases h:(BF X.cz c nm).1<0
  ·refine Or.inr ⟨by simp[Hl,h],?_⟩;unfold Cp Cy;rw[if_neg (by omega)];rfl
  exact Or.inl (by simp[Hl,h])
structure CRan (X:QW)(st0:CSt)(q:List KP)(r:Mc CSt × QV × Int)(p:Mc Unit × QV × Int):Prop where
 heap:r.1.heap=p.1.heap
 sz_:r.1.sz_=p.1.sz_
 res:r.2=p.2
 st:r.1.st=EG X st0 q
 tru:TrueS X r.1.st.cells
 few:(q.length:Int)<=p.1.sz_+1
 good:r.2.2≠10->q.countP (Hl X)=0
 bad:q.countP (Hl X)<=1
theorem xfP {X:QW}(g:BM X=0)(fuel:Int){st0:CSt}(i:TrueS X st0.cells)(d:Nat)(c n:Int)(s:QV)(a:List QV):∃q,(∀st1,TrueS X st1.cells->CRan X st1 q (BL (Ds X fuel) d ⟨X.heap,0,0,st1⟩ c n s a) (BL (Ht X fuel) d ⟨X.heap,0,0,()⟩ c n s a)):=by
 refine⟨(BL (MQ X fuel) d ⟨X.heap,0,0,[]⟩ c n s a).1.st,λst1 f=>?_⟩;obtain⟨⟨a1,a2,a3,-⟩,a4⟩:=xk9 (xsi X fuel) d ⟨X.heap,0,0,()⟩ ⟨X.heap,0,0,[]⟩ c n s a ⟨rfl,rfl,rfl,trivial⟩;obtain⟨⟨b1,b2,b3,b4⟩,b5⟩:=xk9 (xno g fuel st1) d ⟨X.heap,0,0,[]⟩ ⟨X.heap,0,0,st1⟩ c n s a ⟨rfl,rfl,rfl,rfl,f⟩;have e:=(xof (xqH X fuel) d ⟨X.heap,0,0,[]⟩ c n s a).1;generalize BL (MQ X fuel) d ⟨X.heap,0,0,[]⟩ c n s a=l at *;refine⟨b1.trans a1,b2.trans a2,b5.trans a4,b4.1,b4.2,?_,?_,?_⟩
 ·rw[← a2];by_cases h:l.2.2=0
  ·have:=(e.good h).1;simp at this;omega
  have:=(e.bad h).1;simp at this;omega
 ·rw[b5];intro b;by_cases h:l.2.2=0
  ·simpa using (e.good h).2
  rcases (e.bad h).2 with h' | ⟨h',-⟩
  ·simpa using h'
  exact absurd h' b
 by_cases h:l.2.2=0
 ·have:=(e.good h).2;simp only[List.countP_nil] at this;omega
 rcases (e.bad h).2 with h' | ⟨-,h'⟩
 ·simp only[List.countP_nil] at h';omega
 simp only[List.countP_nil] at h';omega
def Hk (l:List QE)(s:QS):Option QE:=l.find? λx=>Cw x.site s
theorem xlK (s:QS):Cw s s=true:=(Kx s s).2 rfl
theorem xhl (s:QS)(ep:Int)(y:QL):∀l:List QE,Hk (Dy l s ep y) s=some (DP (match Hk l s with | none=>⟨s,ep,false,[]⟩ | some x=>FQ x s ep) y)
 | []=>by simp[Dy,Hk,(Lb _ _).1,xlK]
 | x :: r=>by
  unfold Dy Hk;by_cases h:Cw x.site s=true
  ·have a:=Qb (ep:=ep) ((Kx _ _).1 h);rw[if_pos h,List.find?_cons_of_pos (by rw[(Lb _ _).1,a.1];exact xlK s),List.find?_cons_of_pos (p:=λx:QE=>Cw x.site s) h]
  rw[if_neg h,List.find?_cons_of_neg (by simpa using h),List.find?_cons_of_neg (by simpa using h)];exact xhl s ep y r
theorem xha (s s':QS)(ep:Int)(y:QL)(b:s'≠s):∀l:List QE,Hk (Dy l s ep y) s'=Hk l s'
 | []=>by
  have:Cw (DP ⟨s,ep,false,[]⟩ y).site s'=false:=by rw[(Lb _ _).1];exact Bool.eq_false_iff.2 λh=>b ((Kx _ _).1 h).symm
  simp[Dy,Hk,this]
 | x :: r=>by
  unfold Dy Hk;by_cases h:Cw x.site s=true
  ·have a:=(Kx _ _).1 h;have d:=Qb (ep:=ep) a;have c:Cw (DP (FQ x s ep) y).site s'=false:=by rw[(Lb _ _).1,d.1];exact Bool.eq_false_iff.2 λh=>b ((Kx _ _).1 h).symm
   have e:Cw x.site s'=false:=by rw[a];exact Bool.eq_false_iff.2 λh=>b ((Kx _ _).1 h).symm
   rw[if_pos h,List.find?_cons_of_neg (by simpa using c),List.find?_cons_of_neg (by simpa using e)]
  rw[if_neg h];by_cases h':Cw x.site s'=true
  ·rw[List.find?_cons_of_pos (p:=λx:QE=>Cw x.site s') h',List.find?_cons_of_pos (p:=λx:QE=>Cw x.site s') h']
  rw[List.find?_cons_of_neg (by simpa using h'),List.find?_cons_of_neg (by simpa using h')];exact xha s s' ep y b r
def KM (X:QW)(l:List QE)(s:QS)(c:Int):Prop:=∃x,Hk l s=some x/\x.ez=X.ez/\(x.many=true\/Dg X.cz.length (Hv x.lz c)=true)
def Rng (X:QW)(l:List QE):Prop:=∀x∈l,∀y∈x.lz,Dg X.cz.length y.found=true
theorem xgh {ls:List QL}{c:Int}{y:QL}(h:(ls.find? λy=>y.cls == c)=some y):Hv ls c=y.found:=by unfold Hv;rw[h];rfl
theorem xpU {X:QW}{ls:List QL}{c:Int}(h:Dg X.cz.length (Hv ls c)=true):∃y,(ls.find? λy=>y.cls == c)=some y:=by
 cases a:ls.find? λy=>y.cls == c with
 | some y=>exact⟨y,rfl⟩
 | none=>unfold Hv at h;rw[a] at h;simp[Dg] at h
theorem xnL {ls:List QL}{c:Int}(h:0<=CB (λz:QL=>z.cls == c) ls):∃y,(ls.find? λy=>y.cls == c)=some y:=by
 cases a:ls.find? λy=>y.cls == c with
 | some y=>exact⟨y,rfl⟩
 | none=>
  rw[List.find?_eq_none] at a;rw[Lq λi y b=>by simpa using a y (List.mem_of_getElem? b)] at h;omega
theorem KM.with {X:QW}{x:QE}{c:Int}(y:QL)(h:x.many=true\/Dg X.cz.length (Hv x.lz c)=true):(DP x y).many=true\/Dg X.cz.length (Hv (DP x y).lz c)=true:=by
 unfold DP;split
 ·exact h
 split
 ·exact Or.inl rfl
 rcases h with h | h
 ·exact Or.inl h
 obtain⟨z,a⟩:=xpU h;refine Or.inr ?_;have:((x.lz++[y]).find? λy=>y.cls == c)=some z:=by rw[List.find?_append,a];rfl
 rw[xgh this,← xgh a];exact h
theorem KM.put {X:QW}{l:List QE}{s:QS}{c:Int}(h:KM X l s c)(s':QS)(y:QL):KM X (Dy l s' X.ez y) s c:=by
 obtain⟨x,b,a,d⟩:=h;by_cases hs:s=s'
 ·subst hs;refine⟨_,xhl _ _ _ _,?_,?_⟩
  ·rw[(Lb _ _).2,b];simp only;unfold FQ;rw[if_pos a];exact a
  rw[b];simp only;unfold FQ;rw[if_pos a];exact KM.with y d
 exact⟨x,by rw[xha _ _ _ _ hs];exact b,a,d⟩
theorem xnp {X:QW}{l:List QE}{s:QS}{c:Int}(h:Dg X.cz.length (Fb l s X.ez c)=true):KM X l s c:=by
 unfold Fb at h
 cases a:l.find? λx=>Cw x.site s with
 | none=>rw[a] at h;simp[Dg] at h
 | some x=>
  rw[a] at h;simp only[Option.map_some,Option.getD_some] at h;by_cases he:x.ez=X.ez
  ·rw[if_pos he] at h;exact⟨x,a,he,Or.inr h⟩
  rw[if_neg he] at h;simp[Dg] at h
theorem KM.get {X:QW}{l:List QE}{s:QS}{c:Int}(h:KM X l s c)(d:∀x∈l,x.many=false):Dg X.cz.length (Fb l s X.ez c)=true:=by
 obtain⟨x,a,e,b⟩:=h;have f:=List.mem_of_find?_eq_some a;rw[d x f] at b;unfold Fb;unfold Hk at a;rw[a];simp only[Option.map_some,Option.getD_some];rw[if_pos e];rcases b with h | h
 ·cases h
 exact h
theorem xr5 {X:QW}{l:List QE}(k:Rng X l)(s:QS)(y:QL)(i:Dg X.cz.length y.found=true):KM X (Dy l s X.ez y) s y.cls:=by
 refine⟨_,xhl _ _ _ _,?_,?_⟩
 ·rw[(Lb _ _).2]
  cases d:Hk l s with
  | none=>rfl
  | some x=>
   have:=(Kx _ _).1 (show Cw x.site s=true from by have h':=List.find?_some d;exact h');exact (Qb (ep:=X.ez) this).2.1
 have c:∀z∈(match Hk l s with | none=>(⟨s,X.ez,false,[]⟩:QE) | some x=>FQ x s X.ez).lz,Dg X.cz.length z.found=true:=by
  cases d:Hk l s with
  | none=>intro z c;simp at c
  | some x=>
   intro z c;have:=(Kx _ _).1 (show Cw x.site s=true from by have h':=List.find?_some d;exact h');exact k x (List.mem_of_find?_eq_some d) z ((Qb (ep:=X.ez) this).2.2 z c).2
 generalize (match Hk l s with | none=>(⟨s,X.ez,false,[]⟩:QE) | some x=>FQ x s X.ez)=x at c ⊢;unfold DP;split
 ·rename_i h;rcases h with h | h
  ·exact Or.inl h
  obtain⟨z,f⟩:=xnL h;refine Or.inr ?_;rw[xgh f];exact c z (List.mem_of_find?_eq_some f)
 split
 ·exact Or.inl rfl
 rename_i h h';refine Or.inr ?_
 have g:(x.lz.find? λz=>z.cls == y.cls)=none:=by
  rw[List.find?_eq_none];intro z b;intro a
  apply h
  refine Or.inr ?_
  cases e:x.lz.findIdx? λz=>z.cls == y.cls with
  | some j=>unfold CB;rw[e];simp
  | none=>rw[List.findIdx?_eq_none_iff] at e;have:=e z b;rw[this] at a;cases a
 have:((x.lz++[y]).find? λz=>z.cls == y.cls)=some y:=by rw[List.find?_append,g];simp
 rw[xgh this];exact i
theorem Rng.put {X:QW}{l:List QE}(h:Rng X l)(s:QS)(y:QL)(d:Dg X.cz.length y.found=true):Rng X (Dy l s X.ez y):=λz c u b=>by
 rcases PC _ _ _ _ z c with h' | ⟨-,-,f⟩
 ·exact h z h' u b
 rcases f u b with rfl | ⟨x,e,-,-,a⟩
 ·exact d
 exact h x e u a
theorem xoo (xs:List QC)(c:Int)(nm:ByteArray)(h:¬ (BF xs c nm).1<0):Dg xs.length (BF xs c nm).1=true:=by
 rw[NP c] at h ⊢;rcases xfB (xs:=xs) (name:=nm) (l:=KX xs (xs.length+1) c) with he | ⟨k,hk,h1,he⟩
 ·rw[he] at h;simp at h
 rw[he];obtain⟨i,d,a⟩:=List.mem_iff_getElem.1 hk;obtain⟨q,x,e,b⟩:=xgf _ _ i _ (by rw[List.getElem?_eq_getElem d]);rw[a] at e;have:=Bz b;simp[Dg];omega
theorem xmv {X:QW}{l:List QE}(b:Rng X l)(s:QS)(c:Int)(nm:ByteArray):Rng X (Dr l X s c nm).1/\(∀s' c',KM X l s' c'->KM X (Dr l X s c nm).1 s' c')/\(Hl X (s,c,nm)=false->KM X (Dr l X s c nm).1 s c):=by
 unfold Dr;split
 ·rename_i h;exact⟨b,λ_ _ h=>h,λ_=>xnp h⟩
 split
 ·rename_i h;exact⟨b,λ_ _ h=>h,λh'=>by simp[Hl,h] at h'⟩
 rename_i h;have a:=xoo X.cz c nm h;exact⟨b.put s _ a,λs' c' h=>h.put s _,λ_=>xr5 b s ⟨c,_⟩ a⟩
theorem xjV {X:QW}:∀(q:List KP) (st:CSt),Rng X st.cells->Rng X (EG X st q).cells/\(∀s c,KM X st.cells s c->KM X (EG X st q).cells s c)/\(∀a∈q,Hl X a=false->KM X (EG X st q).cells a.1 a.2.1)
 | [],st,h=>⟨h,λ_ _ h=>h,λa j=>by cases j⟩
 | a :: r,st,h=>by
  obtain⟨f,i,k⟩:=xmv h a.1 a.2.1 a.2.2;obtain⟨i1,i2,i3⟩:=xjV r (Ey X st a.1 a.2.1 a.2.2).1 f;refine⟨i1,λs c g=>i2 s c (i s c g),λb d e=>?_⟩;rw[List.mem_cons] at d;rcases d with rfl | d
  ·exact i2 _ _ (k e)
  exact i3 b d e
theorem xix (X:QW):∀(q:List KP) (st:CSt),(EG X st q).hits+(EG X st q).nots=st.hits+st.nots+q.length/\st.hits<=(EG X st q).hits/\st.nots<=(EG X st q).nots
 | [],st=>⟨by simp[EG],Int.le_refl _,Int.le_refl _⟩
 | a :: r,st=>by
  obtain⟨b,c,d⟩:=xix X r (Ey X st a.1 a.2.1 a.2.2).1;have e:EG X st (a :: r)=EG X (Ey X st a.1 a.2.1 a.2.2).1 r:=rfl;rw[e]
  have:(Ey X st a.1 a.2.1 a.2.2).1.hits+(Ey X st a.1 a.2.1 a.2.2).1.nots=st.hits+st.nots+1/\st.hits<=(Ey X st a.1 a.2.1 a.2.2).1.hits/\st.nots<=(Ey X st a.1 a.2.1 a.2.2).1.nots:=by
   unfold Ey;simp only;split<;>refine⟨by omega,by omega,by omega⟩
  simp only[List.length_cons];omega
theorem xig {X:QW}{F:List QE}(g:∀x∈F,x.many=false):∀(q:List KP) (st:CSt),st.cells=F->(∀a∈q,Hl X a=false->KM X F a.1 a.2.1)->(EG X st q).cells=F/\(EG X st q).nots<=st.nots+q.countP (Hl X)
 | [],st,h,_=>⟨h,by simp[EG]⟩
 | a :: r,st,h,hq=>by
  have e:EG X st (a :: r)=EG X (Ey X st a.1 a.2.1 a.2.2).1 r:=rfl
  have f:(Ey X st a.1 a.2.1 a.2.2).1.cells=F/\(Ey X st a.1 a.2.1 a.2.2).1.nots<=st.nots+(if Hl X a then 1 else 0):=by
   unfold Ey;simp only;rw[h];by_cases hk:Dg X.cz.length (Fb F a.1 X.ez a.2.1)=true
   ·unfold Dr;rw[if_pos hk];refine⟨rfl,?_⟩;simp only[if_true];split<;>omega
   ·by_cases hn:Hl X a=true
    ·have d:(BF X.cz a.2.1 a.2.2).1<0:=by simpa [Hl] using hn
     unfold Dr;rw[if_neg hk,if_pos d,hn];exact⟨rfl,by simp⟩
    exact absurd ((hq a (by simp) (by simpa using hn)).get g) hk
  obtain⟨i1,i2⟩:=xig g r _ f.1 λb c=>hq b (by simp[c]);rw[e];refine⟨i1,?_⟩;rw[List.countP_cons];have i:=f.2;split at i
  ·rename_i c;rw[if_pos c];simp only[Int.natCast_add,Int.natCast_one];omega
  rename_i c;rw[if_neg c];simp only[Int.natCast_add];omega
structure AgPost (a b:Mc CSt × QV × Int):Prop where
 res:b.2=a.2/\b.1.sz_=a.1.sz_
 pos:0<=a.1.st.hits/\0<=a.1.st.nots/\0<=b.1.st.hits/\0<=b.1.st.nots
 all:a.1.st.hits+a.1.st.nots=b.1.st.hits+b.1.st.nots
 few:a.1.st.hits+a.1.st.nots<=a.1.sz_+1
 good:(∀x∈a.1.st.cells,x.many=false)->a.2.2≠10->b.1.st.nots=0
 bad:(∀x∈a.1.st.cells,x.many=false)->b.1.st.nots<=1
theorem xpw {X:QW}(r:BM X=0)(fuel:Int)(c n:Int)(s:QV)(d:List QV)(ts:List QT):AgPost (BL (Ds X fuel) 20 ⟨X.heap,0,0,⟨[],[],0,0⟩⟩ c n s d) (BL (Ds X fuel) 20 ⟨X.heap,0,0,⟨(BL (Ds X fuel) 20 ⟨X.heap,0,0,⟨[],[],0,0⟩⟩ c n s d).1.st.cells,ts,0,0⟩⟩ c n s d):=by
 have m:TrueS X (⟨[],[],0,0⟩:CSt).cells:=λx k=>by cases k
 obtain⟨q,p⟩:=xfP r fuel m 20 c n s d;have e:=p _ m;generalize BL (Ds X fuel) 20 ⟨X.heap,0,0,⟨[],[],0,0⟩⟩ c n s d=a at e ⊢;have i:=p ⟨a.1.st.cells,ts,0,0⟩ e.tru;generalize BL (Ds X fuel) 20 ⟨X.heap,0,0,⟨a.1.st.cells,ts,0,0⟩⟩ c n s d=b at i ⊢;obtain⟨a1,a2,a3⟩:=xix X q ⟨[],[],0,0⟩;obtain⟨b1,b2,b3⟩:=xix X q ⟨a.1.st.cells,ts,0,0⟩;rw[← e.st] at a1 a2 a3;rw[← i.st] at b1 b2 b3;simp only at a1 a2 a3 b1 b2 b3;have o:=(xjV (X:=X) q ⟨[],[],0,0⟩ (λx k=>by cases k)).2.2;rw[← e.st] at o
 have g:(∀x∈a.1.st.cells,x.many=false)->b.1.st.nots<=q.countP (Hl X):=λf=>by
  have:=(xig f q ⟨a.1.st.cells,ts,0,0⟩ rfl o).2;rw[← i.st] at this;simpa using this
 have h:=e.few;rw[← e.sz_] at h;refine⟨⟨i.res.trans e.res.symm,i.sz_.trans e.sz_.symm⟩,⟨a2,a3,b2,b3⟩,by omega,by omega,λf l=>?_,λf=>?_⟩
 ·have j:=g f;rw[e.good l] at j;simp at j;omega
 have j:=g f;have t:=e.bad;omega
set_option maxRecDepth 8000
theorem xf2 (x:QE)(y:QL):(DP x y).lz.length<=3\/(DP x y).lz.length<=x.lz.length:=by
 unfold DP;split
 ·exact Or.inr (Bq _)
 split
 ·exact Or.inl (by simp)
 exact Or.inl (by simp;omega)
theorem xnz (s:QS)(ep:Int)(y:QL):∀(l:List QE) (z:QE),z∈Dy l s ep y->z.lz.length<=3\/∃x∈l,z.lz.length<=x.lz.length
 | [],z,h=>by
  simp[Dy] at h;subst h;rcases xf2 ⟨s,ep,false,[]⟩ y with h | h
  ·exact Or.inl h
  exact Or.inl (by simp at h;simp[h])
 | x :: r,z,h=>by
  unfold Dy at h;split at h
  ·rw[List.mem_cons] at h;rcases h with rfl | h
   ·rcases xf2 (FQ x s ep) y with h | h
    ·exact Or.inl h
    refine Or.inr ⟨x,by simp,BX h ?_⟩;unfold FQ;split<;>simp
   ·exact Or.inr ⟨z,by simp[h],Bq _⟩
  rw[List.mem_cons] at h;rcases h with rfl | h
  ·exact Or.inr ⟨z,by simp,Bq _⟩
  rcases xnz s ep y r z h with h | ⟨x',a,h⟩
  ·exact Or.inl h
  exact Or.inr ⟨x',by simp[a],h⟩
theorem xje (l:List QE)(X:QW)(s:QS)(c:Int)(nm:ByteArray):(Dr l X s c nm).1.length<=l.length+1/\∀z∈(Dr l X s c nm).1,z.lz.length<=3\/∃x∈l,z.lz.length<=x.lz.length:=by
 unfold Dr;split
 ·exact⟨by simp,λz a=>Or.inr ⟨z,a,Bq _⟩⟩
 split
 ·exact⟨by simp,λz a=>Or.inr ⟨z,a,Bq _⟩⟩
 exact⟨xlG _ _ _ _,λz a=>xnz _ _ _ _ z a⟩
theorem xg5:∀(ls:List QL) (c:Int),(GP ls c).length<=ls.length+1
 | [],c=>by simp[GP]
 | x :: r,c=>by
  unfold GP;split
  ·simp
  simpa using xg5 r c
theorem xkC (s:QS)(c:Int):∀l:List QT,(DL l s c).length<=l.length+1/\∀z∈DL l s c,z.lz.length<=1\/∃x∈l,z.lz.length<=x.lz.length+1
 | []=>⟨by simp[DL],λz a=>by simp[DL] at a;subst a;exact Or.inl (by simp)⟩
 | x :: r=>by
  obtain⟨b,d⟩:=xkC s c r;unfold DL;split
  ·refine⟨by simp,λz a=>?_⟩;rw[List.mem_cons] at a;rcases a with rfl | a
   ·exact Or.inr ⟨x,by simp,xg5 _ _⟩
   exact Or.inr ⟨z,by simp[a],by omega⟩
  refine⟨by simpa using b,λz a=>?_⟩;rw[List.mem_cons] at a;rcases a with rfl | a
  ·exact Or.inr ⟨z,by simp,by omega⟩
  rcases d z a with h | ⟨x',e,h⟩
  ·exact Or.inl h
  exact Or.inr ⟨x',by simp[e],h⟩
abbrev OB (lv tv:Value)(st:CSt):Obj:=qC #[qN,qN,J 0,J 0,J 0,J 0,J 0,lv,tv,J st.hits,J st.nots] 100 (0,0)
structure CFew (st:CSt)(n:Nat):Prop where
 c:st.cells.length+n+1<=1000000000000
 cl:∀x∈st.cells,x.lz.length<=1000000000000
 t:st.ts.length+n+1<=1000000000000
 tl:∀x∈st.ts,x.lz.length+n+1<=1000000000000
 h:0<=st.hits/\st.hits+n<=1000000000
 k:0<=st.nots/\st.nots+n<=1000000000
theorem CFew.mono {st:CSt}{n n':Nat}(h:CFew st n)(b:n'<=n):CFew st n' where
 c:=by have:=h.c;omega
 cl:=h.cl
 t:=by have:=h.t;omega
 tl:=λx a=>by have:=h.tl x a;omega
 h:=by have:=h.h;omega
 k:=by have:=h.k;omega
theorem CFew.look {st:CSt}{n:Nat}(h:CFew st (n+1))(X:QW)(s:QS)(c:Int)(nm:ByteArray):CFew (Ey X st s c nm).1 n where
 c:=by
  have a:=h.c;have e:=(xje st.cells X s c nm).1;show (Dr st.cells X s c nm).1.length+n+1<=_;omega
 cl:=λx d=>by
  rcases (xje st.cells X s c nm).2 x d with h' | ⟨y,b,h'⟩
  ·omega
  have:=h.cl y b;omega
 t:=by
  have a:=h.t;have e:=(xkC s c st.ts).1;show (DL st.ts s c).length+n+1<=_;omega
 tl:=λx d=>by
  have a:=h.t;rcases (xkC s c st.ts).2 x d with h' | ⟨y,b,h'⟩
  ·omega
  have:=h.tl y b;omega
 h:=by
  have a:=h.h;unfold Ey;simp only;split<;>omega
 k:=by
  have a:=h.k;unfold Ey;simp only;split<;>omega
theorem IsRow.fxl {α:Type}{E:CT α}{sz bytes:Nat}{t lo:Nat}{T T':Nat->Nat}{S:Nat->Prop}{w w':qW}{v:Value}{xs:List α}(h:IsRow E sz bytes (λb=>lo<=b/\b<w.heap.size/\T b=t) w v xs)(G:Good E sz)(e:Ext T T' w)(k:Kp S T w w')(c:¬ S t):IsRow E sz bytes (λb=>lo<=b/\b<w'.heap.size/\T' b=t) w' v xs:=
 h.keep G (Keeps.of_block λb a d=>k.blk b d (by rw[a.2.2];exact c)) λb a=>⟨a.1,Cd a.2.1 k.size,by rw[e b a.2.1];exact a.2.2⟩
structure LcP (X:QW)(pb wb ob lo:Nat)(cv hv:Value)(T:Nat->Nat)(w:qW)(st:CSt)(n:Nat):Prop where
 tp:T pb=0
 lp:pb<w.heap.size
 p0:w.cell? (O pb 0)=some (qP ob)
 lk:LkP X wb cv hv T w () 0
 to3:T ob=3
 ll:lo<=w.heap.size
 box:∃a m k g j i,w.heap[ob]?=some (OB (qS a m k) (qS g j i) st)/\Fj (λb=>lo<=b/\b<w.heap.size/\T b=0) w (qS a m k) st.cells/\Ep (λb=>lo<=b/\b<w.heap.size/\T b=0) w (qS g j i) st.ts
 few:CFew st n
theorem LcP.keep {X:QW}{pb wb ob lo:Nat}{cv hv:Value}{T T':Nat->Nat}{w w':qW}{st:CSt}{n:Nat}{S:Nat->Prop}(h:LcP X pb wb ob lo cv hv T w st n)(e:Ext T T' w)(k:Kp S T w w')(b:¬ S 0)(c:¬ S 3):LcP X pb wb ob lo cv hv T' w' st n:=by
 obtain⟨a,m,kk,g,j,i,b1,b2,b3⟩:=h.box;exact⟨by rw[e _ h.lp];exact h.tp,Cd h.lp k.size,k.cell h.p0 (by rw[h.tp];exact b),h.lk.keep e k b,by rw[e _ (By b1)];exact h.to3,BX h.ll k.size,⟨a,m,kk,g,j,i,k.held b1 (by rw[h.to3];exact c),b2.fxl Dc e k b,b3.fxl xbD e k b⟩,h.few⟩
theorem LcP.mono {X:QW}{pb wb ob lo:Nat}{cv hv:Value}{T:Nat->Nat}{w:qW}{st:CSt}{n n':Nat}(h:LcP X pb wb ob lo cv hv T w st n)(a:n'<=n):LcP X pb wb ob lo cv hv T w st n':=⟨h.tp,h.lp,h.p0,h.lk,h.to3,h.ll,h.box,h.few.mono a⟩
theorem xfr {α:Type}{E:CT α}{sz bytes:Nat}{P:Nat->Prop}{w:qW}{v:Value}{xs:List α}(h:IsRow E sz bytes P w v xs)(n:∀f x,E P w f x->E (λb=>P b/\b<w.heap.size) w f x/\∃u,f 0=some u):IsRow E sz bytes (λb=>P b/\b<w.heap.size) w v xs:=by
 obtain⟨ad,cap,rfl,k,c,e,a⟩:=h;refine⟨ad,cap,rfl,k,c,e,λi x m=>?_⟩;obtain⟨b,o,rfl,g,d⟩:=a i x m;obtain⟨j,u,l⟩:=n _ _ d;exact⟨b,o,rfl,⟨g,World.block_lt_of_cell? w (O b (o+i*sz+0)) l⟩,j⟩
theorem xfU {P:Nat->Prop}{w:qW}{v:Value}{xs:List QL}(h:Fw P w v xs):Fw (λb=>P b/\b<w.heap.size) w v xs:=xfr h λf x a=>⟨a,_,a.1⟩
theorem xjx {P:Nat->Prop}{w:qW}{v:Value}{xs:List QE}(h:Fj P w v xs):Fj (λb=>P b/\b<w.heap.size) w v xs:=xfr h λf x j=>by
 obtain⟨a,c,i,k,d,v,e,g⟩:=j;exact⟨⟨a,c,i,k,d,v,e,xfU g⟩,_,a⟩
theorem xhD {P:Nat->Prop}{w:qW}{v:Value}{xs:List QT}(h:Ep P w v xs):Ep (λb=>P b/\b<w.heap.size) w v xs:=xfr h λf x i=>by
 obtain⟨a,c,g,v,d,e⟩:=i;exact⟨⟨a,c,g,v,d,xfU e⟩,_,a⟩
structure CfR (w:qW)(pb wb ob:Nat)(cv hv lv tv:Value)(ep:Int)(s:QS)(st:CSt)(w':qW):Prop where
 p0:w'.cell? (O pb 0)=some (qP ob)
 w0:w'.cell? (O wb 0)=some cv
 w1:w'.cell? (O wb 1)=some hv
 w2:w'.cell? (O wb 2)=some (J ep)
 s0:w'.cell? (O w.heap.size 0)=some (J s.cls)
 s1:w'.cell? (O w.heap.size 1)=some (qZ s.name)
 s2:w'.cell? (O w.heap.size 2)=some (J s.at')
 o7:w'.cell? (O ob 7)=some lv
 o8:w'.cell? (O ob 8)=some tv
theorem CfR.al {w:qW}{pb wb ob:Nat}{cv hv lv tv:Value}{ep:Int}{s:QS}{st:CSt}{w':qW}(h:CfR w pb wb ob cv hv lv tv ep s st w'):w'.cell? (O pb 0)=some (qP ob)/\w'.cell? (O wb 0)=some cv/\w'.cell? (O wb 1)=some hv/\w'.cell? (O wb 2)=some (J ep)/\w'.cell? (O w.heap.size 0)=some (J s.cls)/\w'.cell? (O w.heap.size 1)=some (qZ s.name)/\w'.cell? (O w.heap.size 2)=some (J s.at')/\w'.cell? (O ob 7)=some lv:=⟨h.p0,h.w0,h.w1,h.w2,h.s0,h.s1,h.s2,h.o7⟩
theorem CfR.later {w:qW}{pb wb ob:Nat}{cv hv lv tv:Value}{ep:Int}{s:QS}{st:CSt}{w' w'':qW}(h:CfR w pb wb ob cv hv lv tv ep s st w')(a:qY w' w''):CfR w pb wb ob cv hv lv tv ep s st w'':=⟨Bf a h.p0,Bf a h.w0,Bf a h.w1,Bf a h.w2,Bf a h.s0,Bf a h.s1,Bf a h.s2,Bf a h.o7,Bf a h.o8⟩
theorem xq8 {w:qW}{ob:Nat}{lv tv:Value}{st:CSt}(h:w.heap[ob]?=some (OB lv tv st))(v:Value)(l:List QE):(w.setCell (O ob 7) v).heap[ob]?=some (OB v tv { st with cells:=l }):=by rw[BW h];rfl
theorem xqK {w:qW}{ob:Nat}{lv tv:Value}{st:CSt}(h:w.heap[ob]?=some (OB lv tv st))(v:Value)(l:List QT):(w.setCell (O ob 8) v).heap[ob]?=some (OB lv v { st with ts:=l }):=by rw[BW h];rfl
theorem xrj {w:qW}{ob:Nat}{lv tv:Value}{st:CSt}(h:w.heap[ob]?=some (OB lv tv st))(n:Int):(w.setCell (O ob 9) (J n)).heap[ob]?=some (OB lv tv { st with hits:=n }):=by rw[BW h];rfl
theorem xpi {w:qW}{ob:Nat}{lv tv:Value}{st:CSt}(h:w.heap[ob]?=some (OB lv tv st))(n:Int):(w.setCell (O ob 10) (J n)).heap[ob]?=some (OB lv tv { st with nots:=n }):=by rw[BW h];rfl
theorem xjz {X:QW}{pb wb ob lo:Nat}{cv hv:Value}{T:Nat->Nat}{w:qW}{st:CSt}{n:Nat}(h:LcP X pb wb ob lo cv hv T w st (n+1))(s:QS)(c:Int)(name:ByteArray):Calls Tryz.prog 143 #[SV s,J c,qZ name,qP pb,qP wb] w λe w'=>e=.returned (.tuple #[J (Ey X st s c name).2.1,J (Ey X st s c name).2.2])/\(∃T',Ext T T' w/\LcP X pb wb ob lo cv hv T' w' (Ey X st s c name).1 n)/\Kp (λt=>t=3) T w w':=by
 have a3:qY w (w.alloc (qJ s)).drew:=(Bg _ _).drew;have L:=Lf w s 105;have B:=h.keep (T':=T) (.refl _ _) (Kp.of_below (S:=λ_=>False) a3) id id;have aq:ob<w.heap.size:=by obtain⟨_,_,_,_,_,_,b,_⟩:=h.box;exact By b
 obtain⟨a,m,k,g,j,i,b1,b2,b3⟩:=B.box;have hF:CfR w pb wb ob cv hv (qS a m k) (qS g j i) X.ez s st (w.alloc (qJ s)).drew:=⟨B.p0,B.lk.w0,B.lk.w1,B.lk.w2,L.c0,L.c1,L.c2,by rw[Bn b1];rfl,by rw[Bn b1];rfl⟩
 have C:=xoe st.cells X s c name _ cv hv _ (b2.mono (Q:=Fx T _) Dc λb F=>F.2) B.lk.cls B.lk.heap (by have:=h.few.c;omega) (λx hx=>by have:=h.few.cl x hx;omega);have H:=hid h;have H1:=hid B;have a7:=hid a3;have a6:Hid ((Ey X st s c name).2=(Dr st.cells X s c name).2.1):=rfl;obtain⟨ac,cc,z,-⟩:=id B.lk.cls;obtain⟨ah,ch,u,-⟩:=id B.lk.heap;subst z u;have Z:pb≠ob:=λe=>by have B:=h.tp;have h2:=h.to3;rw[e] at B;omega
 have b4:wb≠ob:=λe=>by have B:=h.lk.tag;have h2:=h.to3;rw[e] at B;omega
 have a5:w.heap.size≠ob:=by omega
 have HB:=hid b1;have H3:=hid b3;clear h B a3 L b1 b2 b3;generalize ad:Dr st.cells X s c name=cf at *;obtain⟨cl,⟨f1,f2⟩,kn⟩:=cf;simp only at C a6;have ag:Hid (w.heap.size<(w.alloc (qJ s)).drew.heap.size):=by show _<_;simp
 go_enter Tryz.func143,Tryz.ntmps143;go_upto_region 1 with (fail);generalize (w.alloc (qJ s))=W at *
 go_region_held3 (λw'=>w'.cell? (O pb 0)=some (qP ob)/\w'.cell? (O wb 0)=some (qS ac X.cz.length cc)/\w'.cell? (O wb 1)=some (qS ah X.heap.length ch)/\w'.cell? (O wb 2)=some (J X.ez)/\w'.cell? (O w.heap.size 0)=some (J s.cls)/\w'.cell? (O w.heap.size 1)=some (qZ s.name)/\w'.cell? (O w.heap.size 2)=some (J s.at')/\w'.cell? (O ob 7)=some (qS a m k))
  (first | with_reducible exact hF.al | with_reducible exact a8.al)
  (first | (go_at_call 144;refine C.mono ?_;rintro e w2 ⟨a2,k2,rfl,q,l⟩;have a8:=hF.later l))
 have a0:=Bs HB.out l;have H2:=hid q;have ae:=hid l;have ak:=hid a0;have o7f:=BN a0;obtain⟨p0,w0,r,y,s0,s1,s2,o7,o8⟩:=id a8;clear hF C q l a0;go_upto_region 3 with (fail);have ai:Hid (Kp (λt=>t=3) T w (w2.setCell (O ob 7) (qS a2 cl.length k2))):=((Kp.of_below a7.out).on ae.out).set (λ_=>H.out.to3) _ _;have M:Kp (λt=>t=3) T W.drew (w2.setCell (O ob 7) (qS a2 cl.length k2)):=(Kp.of_below ae.out).set (λ_=>H.out.to3) _ _;have aw:=H3.out.fxl xbD (.refl T W.drew) M (by omega);have N:=xq8 ak.out (qS a2 cl.length k2) cl;have av:Hid (Fj (λb=>W.drew.heap.size<=b) (w2.setCell (O ob 7) (qS a2 cl.length k2)) (qS a2 cl.length k2) cl):=H2.out.keep Dc (CK (Keeps.refl _ _) (by have:=a7.out.size;omega) _) λ_ h=>h;have y0:=(BV w2 (O ob 7) (O pb 0) (qS a2 cl.length k2) (by simpa using Z.symm)).trans p0;have y1:=(BV w2 (O ob 7) (O w.heap.size 0) (qS a2 cl.length k2) (by simpa using a5.symm)).trans s0;have y2:=(BV w2 (O ob 7) (O w.heap.size 1) (qS a2 cl.length k2) (by simpa using a5.symm)).trans s1;have y3:=(BV w2 (O ob 7) (O w.heap.size 2) (qS a2 cl.length k2) (by simpa using a5.symm)).trans s2
 clear p0 w0 r y s0 s1 s2 o7 o8 o7f a8;generalize (w2.setCell (O ob 7) (qS a2 cl.length k2))=V at *;have y8:V.cell? (O ob 8)=some (qS g j i):=by rw[Bn N];rfl
 have Y:=λw' (F:qY V w')=>xrm st.ts _ s c w' (aw.later xbD F) (by have:=H.out.few.t;omega) (λx hx=>by have:=H.out.few.tl x hx;omega);have am:=hid N;have yf:=BN N;have ay:=hid M;have an:=hid M.size;clear N M;have d:V.drew.cell? (O pb 0)=some (qP ob)/\V.drew.cell? (O w.heap.size 0)=some (J s.cls)/\V.drew.cell? (O w.heap.size 1)=some (qZ s.name)/\V.drew.cell? (O w.heap.size 2)=some (J s.at')/\V.drew.cell? (O ob 8)=some (qS g j i):=⟨y0,y1,y2,y3,y8⟩;refine Fm (S:=λw'=>w'.cell? (O pb 0)=some (qP ob)/\w'.cell? (O w.heap.size 0)=some (J s.cls)/\w'.cell? (O w.heap.size 1)=some (qZ s.name)/\w'.cell? (O w.heap.size 2)=some (J s.at')/\w'.cell? (O ob 8)=some (qS g j i)) [10] (by kernel_rfl) ?_;refine tk 0 _ (qP ob) rfl (d) (λ_ _ _ h=>h) rfl (by kernel_rfl) ?_ ?_
 ·rintro w⟨_,_,_,_,_⟩;go_simp
 try simp only[Act.put,Bj,Bl,Bk]
 refine tk 1 _ (qP ob) rfl (d) (λ_ _ _ h=>h) rfl (by kernel_rfl) ?_ ?_
 ·rintro w⟨_,_,_,_,_⟩;go_simp
 try simp only[Act.put,Bj,Bl,Bk]
 refine tk 2 _ (qP ob) rfl (d) (λ_ _ _ h=>h) rfl (by kernel_rfl) ?_ ?_
 ·rintro w⟨_,_,_,_,_⟩;go_simp
 try simp only[Act.put,Bj,Bl,Bk]
 refine tk 3 _ (.pointer (some (O ob 8))) rfl (d) (λ_ _ _ h=>h) rfl (by kernel_rfl) ?_ ?_
 ·rintro w⟨_,_,_,_,_⟩;go_simp
 try simp only[Act.put,Bj,Bl,Bk]
 refine tk 4 _ (qS g j i) rfl (d) (λ_ _ _ h=>h) rfl (by kernel_rfl) ?_ ?_
 ·rintro w⟨_,_,_,_,_⟩;go_simp
 try simp only[Act.put,Bj,Bl,Bk]
 refine tk 5 _ (SV s) rfl (d) (λ_ _ _ h=>h) rfl (by kernel_rfl) ?_ ?_
 ·rintro w⟨_,_,_,_,_⟩;go_simp
 try simp only[Act.put,Bj,Bl,Bk]
 refine tk 6 _ (J c) rfl (d) (λ_ _ _ h=>h) rfl (by kernel_rfl) ?_ ?_
 ·rintro w⟨_,_,_,_,_⟩;go_simp
 try simp only[Act.put,Bj,Bl,Bk]
 refine DS (rs:=[7]) (by kernel_rfl) (by simp) ?_;intro i hi;simp only[List.mem_cons,List.not_mem_nil,or_false] at hi;subst hi;refine Ck (o:=_) rfl (λK' hK=>?_);go_simp
 go_at_call 145
 refine (Y _ (Br _ V).drew).mono ?_;rintro e w3 ⟨g3,c3,rfl,p,f⟩;have a1:=Bs (show V.drew.heap[ob]?=_ from am.out) f;have G:=And.intro (Bf f d.1) (And.intro (Bf f d.2.1) (And.intro (Bf f d.2.2.1) (And.intro (Bf f d.2.2.2.1) (Bf f d.2.2.2.2))));dsimp only;refine hK _ _ (λ_=>?_) ?_
 ·exact G
 clear hK K'
 try simp only[Act.put,Bj,Bl,Bk]
 refine tk 8 _ (qP ob) rfl (G) (λ_ _ _ h=>h) rfl (by kernel_rfl) ?_ ?_
 ·rintro w⟨_,_,_,_,_⟩;go_simp
 try simp only[Act.put,Bj,Bl,Bk]
 refine tk 9 _ (.pointer (some (O ob 8))) rfl (G) (λ_ _ _ h=>h) rfl (by kernel_rfl) ?_ ?_
 ·rintro w⟨_,_,_,_,_⟩;go_simp
 try simp only[Act.put,Bj,Bl,Bk]
 refine DS (rs:=[10]) (by kernel_rfl) (by simp) ?_;intro i hi;simp only[List.mem_cons,List.not_mem_nil,or_false] at hi;subst hi;refine Ck (o:=_) rfl (λK' hK=>?_);have z8:=G.2.2.2.2;have zf:=BN a1;go_simp;refine hK _ _ (λh=>absurd h (by decide)) ?_;clear hK K'
 try simp only[Act.put,Bj,Bl,Bk]
 refine EZ (by kernel_rfl) ?_ _
 try simp only[Act.put,Bj,Bl,Bk]
 have af:Ext T (Dw T W.drew 0) W.drew:=EW T W.drew 0;have a4:Hid (Ext T (Dw T W.drew 0) w):=λb F=>EW T W.drew 0 b (Cd F a7.out.size);have z0:=G.1;clear d G y0 y1 y2 y3 y8 yf Y;have K:=xqK a1 (qG g3 (DL st.ts s c).length c3) (DL st.ts s c);have au:=ag.out;have a9:=an.out;have aj:Hid (Fj (λb=>W.drew.heap.size<=b) (w3.setCell (O ob 8) (qG g3 (DL st.ts s c).length c3)) (qS a2 cl.length k2) cl):=(av.out.later Dc ((Br _ V).drew.trans f)).keep Dc (CK (Keeps.refl _ _) (by omega) _) λ_ h=>h;have ax:Hid (Ep (λb=>W.drew.heap.size<=b) (w3.setCell (O ob 8) (qG g3 (DL st.ts s c).length c3)) (qG g3 (DL st.ts s c).length c3) (DL st.ts s c)):=p.keep xbD (CK (Keeps.refl _ _) (by show ¬ V.heap.size<=ob;omega) _) λ_ h=>BX a9 h;have ap:Hid (Kp (λt=>t=3) T w (w3.setCell (O ob 8) (qG g3 (DL st.ts s c).length c3))):=(ai.out.on ((Br _ V).drew.trans f)).set (λ_=>H.out.to3) _ _;have ar:Hid (Kp (λt=>t=3) T W.drew (w3.setCell (O ob 8) (qG g3 (DL st.ts s c).length c3))):=(ay.out.on ((Br _ V).drew.trans f)).set (λ_=>H.out.to3) _ _;have u0:=(BV w3 (O ob 8) (O pb 0) (qG g3 (DL st.ts s c).length c3) (by simpa using Z.symm)).trans z0
 clear z0 p f a1;generalize (w3.setCell (O ob 8) (qG g3 (DL st.ts s c).length c3))=U at *;have ao:=H.out.few.h;have az:=H.out.few.k;have u9:U.cell? (O ob 9)=some (J st.hits):=by rw[Bn K];rfl
 have u10:U.cell? (O ob 10)=some (J st.nots):=by rw[Bn K];rfl
 have uf:=BN K;have b5:IntKind.i64.wrap (st.hits+1)=st.hits+1:=CM (by omega) (by omega);have b0:IntKind.i64.wrap (st.nots+1)=st.nots+1:=CM (by omega) (by omega);have aa:=hid K;have ab:=hid (H.out.few.look X s c name);have R:Hid ((Ey X st s c name).1=⟨cl,DL st.ts s c,if kn then st.hits+1 else st.hits,if kn then st.nots else st.nots+1⟩):=by show _=_;unfold Ey;rw[ad]
 have D:Hid (∀(o:Nat) (v:Value) (st':CSt),st'.cells=cl->st'.ts=DL st.ts s c->CFew st' n->(U.setCell (O ob o) v).heap[ob]?=some (OB (qS a2 cl.length k2) (qG g3 (DL st.ts s c).length c3) st')->(∃T',Ext T T' w/\LcP X pb wb ob lo (qS ac X.cz.length cc) (qS ah X.heap.length ch) T' (U.setCell (O ob o) v) st' n)/\Kp (λt=>t=3) T w (U.setCell (O ob o) v)):=λo v st' e1 e2 hf hB=>by
  have kU:Kp (λt=>t=3) T W.drew (U.setCell (O ob o) v):=ar.out.set (λ_=>H.out.to3) _ _;have hz:(U.setCell (O ob o) v).heap.size=U.heap.size:=by simp
  refine⟨⟨Dw T W.drew 0,a4.out,⟨by rw[a4.out _ H.out.lp];exact H.out.tp,Cd H1.out.lp kU.size,(BV U (O ob o) (O pb 0) v (by simpa using Z.symm)).trans u0,H1.out.lk.keep af kU (by omega),by rw[a4.out _ aq];exact H.out.to3,BX H1.out.ll kU.size,⟨_,_,_,_,_,_,hB,?_,?_⟩,hf⟩⟩,ap.out.set (λ_=>H.out.to3) _ _⟩
  ·rw[e1];exact (xjx (aj.out.keep Dc (CK (Keeps.refl _ _) (by omega) _) λ_ h=>h)).mono Dc λb F=>⟨BX H1.out.ll F.1,F.2,Gr F.1⟩
  rw[e2];exact (xhD (ax.out.keep xbD (CK (Keeps.refl _ _) (by omega) _) λ_ h=>h)).mono xbD λb F=>⟨BX H1.out.ll F.1,F.2,Gr F.1⟩
 clear K ad ao az au a9 af
 cases kn with
 | true=>
  have Q:=hid (D.out 9 (J (st.hits+1)) ⟨cl,DL st.ts s c,st.hits+1,st.nots⟩ rfl rfl (by have:=ab.out;rw[R.out] at this;exact this) (xrj aa.out _));clear D;go_wp2;refine Bt (v:=.tuple #[J f1,J f2]) (by simp[results,Tryz.results143,go_sem]) rfl ⟨by rw[a6.out],?_⟩;rw[R.out];exact Q.out
 | false=>
  have Q:=hid (D.out 10 (J (st.nots+1)) ⟨cl,DL st.ts s c,st.hits,st.nots+1⟩ rfl rfl (by have:=ab.out;rw[R.out] at this;exact this) (xpi aa.out _));clear D;go_wp2;refine Bt (v:=.tuple #[J f1,J f2]) (by simp[results,Tryz.results143,go_sem]) rfl ⟨by rw[a6.out],?_⟩;rw[R.out];exact Q.out
theorem Pg {fn:Nat}{f:Func}(d:Tryz.prog.funcs[fn]?=some f)(g:(f.name == "runtime.NumGoroutine")=false)(b:f.body.isSome=true)(a:Array Value)(w:qW):(callFunc fn a).run Tryz.prog w=.ok (.enter fn a) w:=by
 have c:¬ f.name = "runtime.NumGoroutine" := by simpa using g
 have e:¬ f.body=none:=by intro h;rw[h] at b;cases b
 simp[callFunc,d,c,e]
theorem xgI {X:QW}(h:BM X=0){c n:Int}{m:QM}(j:Cp X.cz c n=some m):m.code.length<=60:=by
 obtain⟨k,-,i,-⟩:=Gx h;obtain⟨kc,kn,x,rfl,rfl,g,a⟩:=Pn j;have d:=i kc x (Bz g) g;unfold Dm at d;split at d
 ·cases d
 split at d
 ·cases d
 have b:=Hm d kn m a;unfold Dn at b;split at b
 ·cases b
 split at b
 ·rename_i e
  have:m.code.length=0:=by
   unfold Ft at e;rw[List.any_eq_true] at e;obtain⟨p,-,e⟩:=e;simp at e;simp[e]
  omega
 unfold Em at b;split at b
 ·rename_i f;exact absurd b f
 rename_i f;have:=xiN (by simpa using f);omega
theorem xio {σ:Type}{p:Mp σ}(a:∀c k,p.E.quick c k=none)(T:Nat->Nat)(w:qW)(st:σ)(c k:Int)(mt:QM)(n:Nat):Calls Tryz.prog 110 (#[J c,J k]++#[]) w λe w'=>(∃fc fn fe ft av nv cv,e=.returned (.tuple #[Lp fc fn fe ft (qS av nv cv),.bool (p.E.quick c k).isSome])/\∀q,p.E.quick c k=some q->ft=q.2/\Cm (Fx T w') w' (qS av nv cv) q.1)/\qY w w':=by
 refine (xo9 c k w).mono ?_;rintro e w' ⟨rfl,b⟩;refine⟨⟨0,⟨#[]⟩,0,0,none,0,0,by rw[a];rfl,λq h=>?_⟩,b⟩;rw[a] at h;cases h
theorem xmh (X:QW)(pb wb ob lo:Nat)(cv hv:Value):Lok (LcP X pb wb ob lo cv hv):=⟨λh e k a c=>h.keep e k a c,λh b=>h.mono b⟩
theorem xoO {X:QW}(b:BM X=0){fuel:Int}(d:fuel<=400)(pb wb ob lo:Nat)(cv hv a:Value):Cx (⟨Ds X fuel,a,X.ez,.func (.func 143) #[] #[qP pb,qP wb],.func (.func 110) #[] #[]⟩:Mp CSt) (LcP X pb wb ob lo cv hv) 143 #[qP pb,qP wb] 110 #[] where
 lv:=rfl
 qv:=rfl
 lcf:=Pg Tryz.func143 (by kernel_rfl) (by kernel_rfl)
 qcf:=Pg Tryz.func110 (by kernel_rfl) (by kernel_rfl)
 ok:=xiV b fuel _
 fuel:=by show fuel<=_;omega
 keep h e k h0 h3:=h.keep e k h0 h3
 mono h hn:=h.mono hn
 look T w st s c name n h:=xjz h s c name
 quick T w st c k mt n _ _:=xio (λ_ _=>rfl) T w st c k mt n
 few c k mt hm:=⟨by have:=xgI b hm;omega,λq h=>by cases h⟩
theorem xkv (ac:Option Addr)(nc cc:Nat)(ah:Option Addr)(nh ch:Nat)(ep:Int)(ob:Nat)(w:qW):Calls Tryz.prog 111 #[WV (qS ac nc cc) (qS ah nh ch) ep,qP ob] w λe w'=>e=.returned (.func (.func 143) #[] #[qP (w.heap.size+1),qP w.heap.size])/\w'.cell? (O w.heap.size 0)=some (qS ac nc cc)/\w'.cell? (O w.heap.size 1)=some (qS ah nh ch)/\w'.cell? (O w.heap.size 2)=some (J ep)/\w'.cell? (O (w.heap.size+1) 0)=some (qP ob)/\w.heap.size+2<=w'.heap.size/\qY w w':=by
 go_enter Tryz.func111,Tryz.ntmps111;go_wp2;go_ret;exact⟨rfl,Bf (Bg _ _) (Bp w #[qS ac nc cc,qS ah nh ch,J ep] 26 _ rfl 0),Bf (Bg _ _) (Bp w #[qS ac nc cc,qS ah nh ch,J ep] 26 _ rfl 1),Bf (Bg _ _) (Bp w #[qS ac nc cc,qS ah nh ch,J ep] 26 _ rfl 2),Bp _ _ _ _ (by simp) 0,by simp,BG _ _ _⟩
def Gd (ob:Nat):Nat->Nat:=λb=>if b=ob then 3 else 0
theorem xgK (ob:Nat):Gd ob ob=3:=by simp[Gd]
theorem Eb {ob b:Nat}(h:b≠ob):Gd ob b=0:=by simp[Gd,h]
theorem xrp (ob b:Nat):Gd ob b=0\/Gd ob b=3:=by unfold Gd;split<;>simp
abbrev CaV (cv hv:Value)(ep:Int)(r:Ran)(lv tv:Value)(h k:Int):Value:=.agg #[cv,hv,J ep,J r.v.k,J r.v.n,J r.err,J r.sz_,lv,tv,J h,J k]
def xqt (w:qW)(X:QW)(r:Ran × CSt)(e:Ending)(w':qW):Prop:=
 qY w w'/\∃cv hv lv tv,e=.returned (CaV cv hv X.ez r.1 lv tv r.2.hits r.2.nots)/\BK (λb=>w.heap.size<=b) w' cv X.cz/\BP (λb=>w.heap.size<=b) w' hv r.1.heap/\Fj (λb=>w.heap.size<=b) w' lv r.2.cells/\Ep (λb=>w.heap.size<=b) w' tv r.2.ts
structure CrR (w:qW)(cv hv:Value)(ep:Int)(s:QV)(name:ByteArray)(av:Value)(w':qW):Prop where
 w0:w'.cell? (O w.heap.size 0)=some cv
 w1:w'.cell? (O w.heap.size 1)=some hv
 w2:w'.cell? (O w.heap.size 2)=some (J ep)
 c0:w'.cell? (O (w.heap.size+1) 0)=some (J s.k)
 c1:w'.cell? (O (w.heap.size+1) 1)=some (J s.n)
 c2:w'.cell? (O (w.heap.size+1) 2)=some (qZ name)
 c3:w'.cell? (O (w.heap.size+1) 3)=some av
theorem CrR.al {w:qW}{cv hv:Value}{ep:Int}{s:QV}{name:ByteArray}{av:Value}{w':qW}(h:CrR w cv hv ep s name av w'):w'.cell? (O w.heap.size 0)=some cv/\w'.cell? (O w.heap.size 1)=some hv/\w'.cell? (O w.heap.size 2)=some (J ep)/\w'.cell? (O (w.heap.size+1) 0)=some (J s.k)/\w'.cell? (O (w.heap.size+1) 1)=some (J s.n)/\w'.cell? (O (w.heap.size+1) 2)=some (qZ name)/\w'.cell? (O (w.heap.size+1) 3)=some av:=⟨h.w0,h.w1,h.w2,h.c0,h.c1,h.c2,h.c3⟩
theorem CrR.kp {w:qW}{cv hv:Value}{ep:Int}{s:QV}{name:ByteArray}{av:Value}{w' w'':qW}{S:Nat->Prop}{T:Nat->Nat}(h:CrR w cv hv ep s name av w')(k:Kp S T w' w'')(b:¬ S (T w.heap.size))(a:¬ S (T (w.heap.size+1))):CrR w cv hv ep s name av w'':=⟨k.cell h.w0 b,k.cell h.w1 b,k.cell h.w2 b,k.cell h.c0 a,k.cell h.c1 a,k.cell h.c2 a,k.cell h.c3 a⟩
theorem CrR.set {w:qW}{cv hv:Value}{ep:Int}{s:QV}{name:ByteArray}{av:Value}{w':qW}(h:CrR w cv hv ep s name av w'){b:Nat}(a:w.heap.size+2<=b)(o:Nat)(u:Value):CrR w cv hv ep s name av (w'.setCell (O b o) u):=
 ⟨(BV _ _ _ _ (by simp;omega)).trans h.w0,(BV _ _ _ _ (by simp;omega)).trans h.w1,(BV _ _ _ _ (by simp;omega)).trans h.w2,(BV _ _ _ _ (by simp;omega)).trans h.c0,(BV _ _ _ _ (by simp;omega)).trans h.c1,(BV _ _ _ _ (by simp;omega)).trans h.c2,(BV _ _ _ _ (by simp;omega)).trans h.c3⟩
theorem xqq {w:qW}{ob:Nat}{lv tv:Value}{st:CSt}(h:w.heap[ob]?=some (OB lv tv st)):w.cell? (O ob 0)=some (qN)/\w.cell? (O ob 1)=some (qN)/\w.cell? (O ob 2)=some (J 0)/\w.cell? (O ob 3)=some (J 0)/\w.cell? (O ob 4)=some (J 0)/\w.cell? (O ob 5)=some (J 0)/\w.cell? (O ob 6)=some (J 0)/\w.cell? (O ob 7)=some lv/\w.cell? (O ob 8)=some tv/\w.cell? (O ob 9)=some (J st.hits)/\w.cell? (O ob 10)=some (J st.nots):=by
 refine⟨?_,?_,?_,?_,?_,?_,?_,?_,?_,?_,?_⟩<;>(rw[Bn h];rfl)
abbrev OB2 (cv hv:Value)(ep:Int)(r:Ran)(lv tv:Value)(st:CSt):Obj:=qC #[cv,hv,J ep,J r.v.k,J r.v.n,J r.err,J r.sz_,lv,tv,J st.hits,J st.nots] 100 (0,0)
structure CaR (ob:Nat)(cv hv:Value)(ep:Int)(r:Ran)(lv tv:Value)(st:CSt)(w U:qW):Prop where
 box:U.heap[ob]?=some (OB2 cv hv ep r lv tv st)
 kp:∀(T:Nat->Nat),T ob=3->Kp (λt=>t=3) T w U
theorem caA {w:qW}{ob:Nat}{lv tv:Value}{st:CSt}(h:w.heap[ob]?=some (OB lv tv st))(cv hv:Value)(ep:Int)(r:Ran):CaR ob cv hv ep r lv tv st w (((((((w.setCell (O ob 0) cv).setCell (O ob 1) hv).setCell (O ob 2) (J ep)).setCell (O ob 3) (J r.v.k)).setCell (O ob 4) (J r.v.n)).setCell (O ob 5) (J r.err)).setCell (O ob 6) (J r.sz_)):=
 ⟨by rw[BW (BW (BW (BW (BW (BW (BW h _) _) _) _) _) _) _];rfl,λT a=>(((((((Kp.refl _ _ _).set (λ_=>a) _ _).set (λ_=>a) _ _).set (λ_=>a) _ _).set (λ_=>a) _ _).set (λ_=>a) _ _).set (λ_=>a) _ _).set (λ_=>a) _ _⟩
theorem xr4 {w:qW}{ob:Nat}{cv hv:Value}{ep:Int}{r:Ran}{lv tv:Value}{st:CSt}(h:w.heap[ob]?=some (OB2 cv hv ep r lv tv st)):w.cell? (O ob 0)=some cv/\w.cell? (O ob 1)=some hv/\w.cell? (O ob 2)=some (J ep)/\w.cell? (O ob 3)=some (J r.v.k)/\w.cell? (O ob 4)=some (J r.v.n)/\w.cell? (O ob 5)=some (J r.err)/\w.cell? (O ob 6)=some (J r.sz_)/\w.cell? (O ob 7)=some lv/\w.cell? (O ob 8)=some tv/\w.cell? (O ob 9)=some (J st.hits)/\w.cell? (O ob 10)=some (J st.nots):=by
 refine⟨?_,?_,?_,?_,?_,?_,?_,?_,?_,?_,?_⟩<;>(rw[Bn h];rfl)
theorem xmQ {P Q R S:Nat->Prop}(X:QW)(hX:BM X=0)(s:QV)(name:ByteArray)(a:List QV)(fuel:Int)(l:List QE)(ts:List QT)(cv hv av lv tv:Value)(w:qW)(hC:BK P w cv X.cz)(hH:BP P w hv X.heap)(hA:CG Q w av a)(hl:Fj R w lv l)(ht:Ep S w tv ts)(hn:name.size<=140737488351232)(hf:CFew ⟨l,ts,0,0⟩ 400) :
  Calls Tryz.prog 86 #[WV cv hv X.ez,EL s name av,J fuel,lv,tv] w λe w'=>xqt w X (DQ (Ds X fuel) X ⟨l,ts,0,0⟩ s name a fuel) e w':=by
 obtain⟨ac,cc,rfl,-,-,L,-⟩:=id hC;obtain⟨ah,ch,rfl,-,-,H,-⟩:=id hH;obtain⟨aa,ca,rfl,-⟩:=id hA;obtain⟨al,kl,rfl,-⟩:=id hl;obtain⟨at',kt,rfl,-⟩:=id ht;have a8:qY w (((w.alloc (qA ac cc ah ch X)).alloc (qK s name aa a ca)).alloc (qC #[qN,qN,J 0,J 0,J 0,J 0,J 0,qN,qN,J 0,J 0] 100)):=Bh (BG _ _ _) (Bg _ _)
 have ba:CrR w (qS ac X.cz.length cc) (qS ah X.heap.length ch) X.ez s name (qS aa a.length ca) (((w.alloc (qA ac cc ah ch X)).alloc (qK s name aa a ca)).alloc (qC #[qN,qN,J 0,J 0,J 0,J 0,J 0,qN,qN,J 0,J 0] 100)):=by
  obtain⟨-,w0,w1,w2,c0,c1,c2,c3⟩:=xk2 w (qS ac X.cz.length cc) (qS ah X.heap.length ch) X.ez s name (qS aa a.length ca);exact⟨Bf (Bg _ _) w0,Bf (Bg _ _) w1,Bf (Bg _ _) w2,Bf (Bg _ _) c0,Bf (Bg _ _) c1,Bf (Bg _ _) c2,Bf (Bg _ _) c3⟩
 have hz:(((w.alloc (qA ac cc ah ch X)).alloc (qK s name aa a ca)).alloc (qC #[qN,qN,J 0,J 0,J 0,J 0,J 0,qN,qN,J 0,J 0] 100)).heap.size=w.heap.size+3:=by simp
 have aq:(((w.alloc (qA ac cc ah ch X)).alloc (qK s name aa a ca)).alloc (qC #[qN,qN,J 0,J 0,J 0,J 0,J 0,qN,qN,J 0,J 0] 100)).heap[w.heap.size+2]?=some (qC #[qN,qN,J 0,J 0,J 0,J 0,J 0,qN,qN,J 0,J 0] 100 (0,0)):=Dh _ _ _ (by simp);go_enter Tryz.func86,Tryz.ntmps86;go_upto_region 1 with (fail);generalize (((w.alloc (qA ac cc ah ch X)).alloc (qK s name aa a ca)).alloc (qC #[qN,qN,J 0,J 0,J 0,J 0,J 0,qN,qN,J 0,J 0] 100))=W at *;go_wp2_with fail;refine (NV l _ W (hl.later Dc a8) (by have:=hf.c;simp only at this;omega) (λx hx=>by have:=hf.cl x hx;omega)).mono ?_;rintro e w1 ⟨g1,rfl,C,M,f⟩;go_wp2_with fail;refine (xg4 ts _ w1 ((ht.later xbD a8).later xbD f) (by have:=hf.t;simp only at this;omega) (λx hx=>by have:=hf.tl x hx;omega)).mono ?_;rintro e w2 ⟨g2,K,rfl,z,N,g⟩;have ap:=Nz (C.row0 xcN (by unfold maxLen;have:=hf.c;simp only at this;omega));have az:=z.tallies (P:=λb=>g2<=b/\b<w2.heap.size) (by unfold maxLen;have:=hf.t;simp only at this;omega) (λx hx=>by unfold maxLen;have:=hf.tl x hx;omega) λb h1 h2=>⟨h1,h2⟩
 have a7:qY w2 (w2.alloc (OB (qG g1 l.length l.length) (qG g2 ts.length ts.length) ⟨l,ts,0,0⟩)).drew:=(Bg _ _).drew;have ar:Hid (qY w (w2.alloc (OB (qG g1 l.length l.length) (qG g2 ts.length ts.length) ⟨l,ts,0,0⟩)).drew):=Bh (Bh (Bh a8 f) g) a7;have ai:qY W (w2.alloc (OB (qG g1 l.length l.length) (qG g2 ts.length ts.length) ⟨l,ts,0,0⟩)).drew:=Bh (Bh f g) a7;have aj:=ba.kp (T:=λ_=>0) (Kp.of_below (S:=λ_=>False) ai) id id;have ax:=Bs aq ai;have aw:=(ap.later Dc g).later Dc a7;have ay:=az.later xbD a7;have an:(w2.alloc (OB (qG g1 l.length l.length) (qG g2 ts.length ts.length) ⟨l,ts,0,0⟩)).drew.heap[w2.heap.size]?=_:=BH w2 _;have br:=f.size;have bt:=g.size;have bg:w2.heap.size<(w2.alloc (OB (qG g1 l.length l.length) (qG g2 ts.length ts.length) ⟨l,ts,0,0⟩)).drew.heap.size:=by simp
 have HC:=hid hC;have HH:=hid hH;have HA:=hid hA;have bc:=hid aw;have bm:=hid ay;have bj:=hid an;have be:=hid ax;clear hC hH hA hl ht ap az C z ba aq f g a7 ai a8 aw ay an ax;go_upto_region 2 with (fail);generalize (w2.alloc (OB (qG g1 l.length l.length) (qG g2 ts.length ts.length) ⟨l,ts,0,0⟩))=V at *;generalize w2.heap.size=ob at *;have am:=xkv ac X.cz.length cc ah X.heap.length ch X.ez ob V.drew
 have ae:∀w3:qW,Below V.drew.heap.size V.drew w3->V.drew.heap.size+2<=w3.heap.size->w3.cell? (O V.drew.heap.size 0)=some (qS ac X.cz.length cc)->w3.cell? (O V.drew.heap.size 1)=some (qS ah X.heap.length ch)->w3.cell? (O V.drew.heap.size 2)=some (J X.ez)->w3.cell? (O (V.drew.heap.size+1) 0)=some (qP ob)->Calls Tryz.prog 108 #[qV ac cc ah ch X,EL s name (qS aa a.length ca),J fuel,.func (.func 143) #[] #[qP (V.drew.heap.size+1),qP V.drew.heap.size],.func (.func 110) #[] #[]] w3 λe w'=>WiPost (LcP X (V.drew.heap.size+1) V.drew.heap.size ob (w.heap.size+3) (qS ac X.cz.length cc) (qS ah X.heap.length ch)) (Gd ob) w3 X (DQ (Ds X fuel) X ⟨l,ts,0,0⟩ s name a fuel) e w':=λw3 d bn f0 f1 f2 f3=>by
  have a2:=Bh ar.out d;have bk:=d.size;have ag:∀b,b<w.heap.size->(Gd ob) b=0:=λb hb=>Eb (by omega);have k3:BK (Fx (Gd ob) w3) w3 (qS ac X.cz.length cc) X.cz:=(xdx HC.out).keep Bw (Keeps.of_below a2) λb hb=>⟨Cd hb a2.size,ag b hb⟩
  have k4:BP (Fx (Gd ob) w3) w3 (qS ah X.heap.length ch) X.heap:=(xfO HH.out).keep BB (Keeps.of_below a2) λb hb=>⟨Cd hb a2.size,ag b hb⟩
  refine xiL (T0:=Gd ob) X hX (Ds X fuel) ⟨l,ts,0,0⟩ rfl s name a _ _ _ w3 (λb _=>xrp ob b) k3 k4 ((xek HA.out).keep BZ (Keeps.of_below a2) λb hb=>⟨Cd hb a2.size,ag b hb⟩) hn (xmh _ _ _ _ _ _ _) ⟨Eb (by omega),by omega,f3,⟨Eb (by omega),by omega,f0,f1,f2,k3,k4⟩,xgK ob,by omega,⟨_,_,_,_,_,_,Bs bj.out d,(bc.out.later Dc d).mono Dc λb hb=>⟨by omega,by omega,Eb (by omega)⟩,(bm.out.later xbD d).mono xbD λb hb=>⟨by omega,by omega,Eb (by omega)⟩⟩,hf.mono (Nat.min_le_right _ _)⟩ (λ_ h4 cv'=>xoO hX h4 _ _ _ _ _ _ cv')
 have bl:=hid (rfl:DQ (Ds X fuel) X ⟨l,ts,0,0⟩ s name a fuel=DQ (Ds X fuel) X ⟨l,ts,0,0⟩ s name a fuel);obtain⟨r,hr⟩:∃r,DQ (Ds X fuel) X ⟨l,ts,0,0⟩ s name a fuel=r:=⟨_,rfl⟩;rw[hr] at ae;have bd:=hid hr;clear hr bl;have ao:=aj.al;have HZ:=hid bg;simp only[Nat.add_assoc,Nat.reduceAdd] at *;have tokA:True:=trivial
 go_region_held3 (λw'=>w'.cell? (O w.heap.size 0)=some (qS ac X.cz.length cc)/\w'.cell? (O w.heap.size 1)=some (qS ah X.heap.length ch)/\w'.cell? (O w.heap.size 2)=some (J X.ez)/\w'.cell? (O (w.heap.size+1) 0)=some (J s.k)/\w'.cell? (O (w.heap.size+1) 1)=some (J s.n)/\w'.cell? (O (w.heap.size+1) 2)=some (qZ name)/\w'.cell? (O (w.heap.size+1) 3)=some (qS aa a.length ca))
  (first | with_reducible exact ao | with_reducible exact ad.al | with_reducible exact a6.al | with_reducible exact (((a6.set a1 _ _).set a1 _ _).set a1 _ _).al | with_reducible exact (((((((a6.set a1 _ _).set a1 _ _).set a1 _ _).set a1 _ _).set a1 _ _).set a1 _ _).set a1 _ _).al | with_reducible exact ((((a6.set a1 _ _).set a1 _ _).set a1 _ _).set a1 _ _).al)
  (first
   | (have _t:=tokA;go_at_call 111;refine am.mono ?_;rintro e w3 ⟨rfl,f0,f1,f2,f3,fz,d⟩;have ad:=aj.kp (T:=λ_=>0) (Kp.of_below (S:=λ_=>False) d) id id;clear tokA;have tokB:True:=trivial)
   | (have _t:=tokB;go_at_call 108;refine (ae _ d fz f0 f1 f2 f3).mono ?_;rintro e w4 ⟨i,T4,y,p,Z,Y,rfl,q,o⟩;have bn:=d.size;have a6:=ad.kp i (by rw[Eb (by omega)];omega) (by rw[Eb (by omega)];omega);have a1:w.heap.size+2<=ob:=(by omega);obtain⟨a5,m5,k5,g5,j5,i5,m,u,B⟩:=p.box;have bf:=BN m;obtain⟨b0,b1,b2,b3,b4,b5,b6,b7,b8,b9,G⟩:=xqq m;obtain⟨a3,k3,rfl,-⟩:=id q;obtain⟨a4,k4,rfl,-⟩:=id o;have au:=i.held (Bs be.out d) (by rw[Eb (by omega)];omega);clear tokB))
 have hU:=caA m (qS a3 X.cz.length k3) (qS a4 r.1.heap.length k4) X.ez r.1;generalize (((((((w4.setCell (O ob 0) (qS a3 X.cz.length k3)).setCell (O ob 1) (qS a4 r.1.heap.length k4)).setCell (O ob 2) (J X.ez)).setCell (O ob 3) (J r.1.v.k)).setCell (O ob 4) (J r.1.v.n)).setCell (O ob 5) (J r.1.err)).setCell (O ob 6) (J r.1.sz_))=U at *;have ab:=hU.kp (Gd ob) (xgK ob);have af:=ab.held au (by rw[Eb (by omega)];omega);obtain⟨d0,d1,d2,d3,d4,d5,d6,d7,d8,d9,a0⟩:=xr4 hU.box;obtain⟨e0,e1,e2,e3,e4,e5,e6,e7,e8,e9,D⟩:=xqq (st:=⟨[],[],0,0⟩) af;have rf:=BN af;have bp:¬ w.heap.size+2=ob:=by omega
 have bo:¬ ob=w.heap.size+2:=by omega
 have HQ:Hid (∀U',Below w.heap.size U U'->Keeps (λb=>b≠w.heap.size+2) U U'->xqt w X r (.returned (CaV (qS a3 X.cz.length k3) (qS a4 r.1.heap.length k4) X.ez r.1 (qS a5 m5 k5) (qS g5 j5 i5) r.2.hits r.2.nots)) U'):=by
  intro U' F j;have bk:=d.size;have bi:Below w.heap.size w3 w4:=i.below (λb hb=>by rw[Eb (by omega)];omega) (by omega);have bh:Below w.heap.size w4 U:=ab.below (λb hb=>by rw[Eb (by omega)];omega) (BX (by omega) i.size);have bb:qY w U':=((((Bh ar.out d).trans bi).trans bh).trans F);have a9:∀ {P:Nat->Prop},(∀b,P b->b≠ob)->Keeps P w4 U:=λhP=>Keeps.of_block λb hb hl=>ab.blk b hl (by rw[Eb (hP b hb)];omega);have bs:ob<w3.heap.size:=by omega
  have ak:T4 ob=3:=p.to3;have bq:T4 (w.heap.size+2)=0:=by rw[y _ (by omega)];exact Eb (by omega)
  refine⟨bb,_,_,_,_,rfl,(q.keep Bw (a9 λb hb=>by have:=hb.1;omega) λ_ h=>h).keep Bw (j.mono λb hb=>by have:=hb.1;omega) λb hb=>by have:=hb.1;omega,(o.keep BB (a9 λb hb=>by have:=hb.1;omega) λ_ h=>h).keep BB (j.mono λb hb=>by have:=hb.1;omega) λb hb=>by have:=hb.1;omega,?_,?_⟩
  ·exact (u.keep Dc (a9 λb hb e=>by rw[e] at hb;have:=hb.2.2;rw[ak] at this;omega) λ_ h=>h).keep Dc (j.mono λb hb=>by have:=hb.1;omega) λb hb=>by have:=hb.1;omega
  exact (B.keep xbD (a9 λb hb e=>by rw[e] at hb;have:=hb.2.2;rw[ak] at this;omega) λ_ h=>h).keep xbD (j.mono λb hb=>by have:=hb.1;omega) λb hb=>by have:=hb.1;omega
 clear ab af hU m u B p i q o y aj ad a6 ao ae am f0 f1 f2 f3 b0 b1 b2 b3 b4 b5 b6 b7 b8 b9 G bf au;go_wp2;rw[bd.out];refine Bt (v:=CaV (qS a3 X.cz.length k3) (qS a4 r.1.heap.length k4) X.ez r.1 (qS a5 m5 k5) (qS g5 j5 i5) r.2.hits r.2.nots) ?_ rfl (HQ.out _ (((((((((((Br _ U).setCell (by simp) _).setCell (by simp) _).setCell (by simp) _).setCell (by simp) _).setCell (by simp) _).setCell (by simp) _).setCell (by simp) _).setCell (by simp) _).setCell (by simp) _).setCell (by simp) _ |>.setCell (by simp) _) (Keeps.of_block λb hb _=>by rw[BS hb,BS hb,BS hb,BS hb,BS hb,BS hb,BS hb,BS hb,BS hb,BS hb,BS hb]));simp[results,Tryz.results86,go_sem,e0,e1,e2,e3,e4,e5,e6,e7,e8,e9,D]
end Go.Proofs.YtbafokihegegiaaGreatDoor
