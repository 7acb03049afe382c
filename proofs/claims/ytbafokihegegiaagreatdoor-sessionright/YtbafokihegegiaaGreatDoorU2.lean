/- A part. -/
import Derived.Test.YtbafokihegegiaaGreatDoorU1
import Derived.Deep.SlicePairs
import Derived.SizedLaws
import Derived.ChangeOld
import Derived.Lib.SmallJoins
import Derived.ArgAppend
namespace Go.Proofs.YtbafokihegegiaaGreatDoor
open Go.ChangeShapes Go.WideShapes Go.ChangeAt Go.RowKit
set_option linter.unusedSimpArgs false
set_option linter.unusedVariables false
set_option maxHeartbeats 8000000
set_option maxRecDepth 8000
abbrev qJ(s:QS):Obj:=.cells #[.int .i64 s.cls,.string s.name,.int .i64 s.at'] 105
theorem xxG:Tryz.prog.bytesOf 69=48:=by kernel_rfl
theorem xxC:Tryz.prog.bytesOf 41=16:=by kernel_rfl
theorem xxn:Tryz.prog.cellsOf 69=5:=by kernel_rfl
theorem xxe:Tryz.prog.cellsOf 51=5:=by kernel_rfl
theorem xwa:Tryz.prog.cellsOf 41=2:=by kernel_rfl
theorem xvE:Tryz.prog.cellsOf 3=1:=by kernel_rfl
theorem xvI:Tryz.prog.cellsOf 9=1:=by kernel_rfl
theorem xxq:Tryz.prog.cellsOf 49=1:=by kernel_rfl
theorem xxA:Tryz.prog.cellsOf 52=1:=by kernel_rfl
theorem xqS:laidOutB Tryz.prog=true:=by kernel_rfl
theorem own:ownKnob Tryz.prog.godebug=none:=by kernel_rfl
abbrev KR:Nat->Prop:=λ_=>True
theorem xvB {H:Type}{P:Program}{e:TypeId}:∀ {l:List (DataW H)} {d:DataW H},d∈l->∀n∈d.weights P e,n∈DataW.weightsAll P e l
 | d' :: r,d,a,n,hn=>by
  simp only[DataW.weightsAll,List.mem_append];rcases List.mem_cons.1 a with rfl | h
  ·exact Or.inl hn
  exact Or.inr (xvB h n hn)
theorem xwO {w:qW}{a:Addr}{v:Value}(h:w.cell? (a.add 0)=some v):∃b o,a=(O b o):=by
 have d:=World.cell?_spot h;obtain⟨b,o,c⟩:=a;refine⟨b,o,?_⟩;have:c=none:=by simpa [Addr.add] using d
 rw[this]
theorem xuL {α:Type}{p:Nat->α->Prop}:∀n:Nat,(∀i,i<n->∃y,p i y)->∃xs:List α,xs.length=n/\∀(i:Nat) x,xs[i]?=some x->p i x
 | 0,_=>⟨[],rfl,λi x a=>by simp at a⟩
 | n+1,h=>by
  obtain⟨xs,b,d⟩:=xuL n λi c=>h i (by omega);obtain⟨y,e⟩:=h n (by omega);refine⟨xs++[y],by simp[b],λi x a=>?_⟩;by_cases c:i<xs.length
  ·rw[List.getElem?_append_left c] at a;exact d i x a
  have:=Bz a;simp at this;obtain rfl:i=xs.length:=by omega
  simp at a;subst a;rw[b];exact e
section
variable {H:Type} {enc:TypeId × Value->H} {w:World} {base:Nat} {spare:Nat->Bool} {held:Bool}
theorem xu2 {α:Type}{E:CT α}{sz bytes:Nat}(G:Good E sz){T e:TypeId}(L:Tryz.prog.underlying T=some (.slice e))(Q:Tryz.prog.cellsOf e=sz)(Y:Tryz.prog.bytesOf e=bytes)(hp:0<bytes)
  (l:∀(n:Nat) (cs:List Value) (x:DataW H × List MemPlace),cs.length=sz->DataW.trod enc Tryz.prog w base spare held n e cs=some x->(∀n∈x.1.weights Tryz.prog e,n<=140737488351232)->∃y,E KR w (λk=>cs[k]?) y)
  {fuel:Nat} {v:Value} {x:DataW H × List MemPlace} (h:DataW.trod enc Tryz.prog w base spare held fuel T [v]=some x) (R:∀n∈x.1.weights Tryz.prog T,n<=140737488351232):∃xs,IsRow E sz bytes KR w v xs:=by
 have a0:=G.pos;rcases Go.Deep.open_slice L h with ⟨s,-⟩ | ⟨a,len,cap,m,n,D,Pl,s,-,S,W,C,rfl,t⟩
 ·simp only[List.cons.injEq,and_true] at s;subst s;exact⟨[],none,0,rfl,Bq _,by unfold maxLen;omega,by simp,λi x t=>by simp at t⟩
 simp only[List.cons.injEq,and_true] at s;subst s;have F:len<=m:=by rw[C];split<;>omega
 have K:len*bytes<=140737488351232:=by
  have:=R ((((List.range len).map D).length+((List.range (m-len)).map λj=>D (len+j)).length)*Tryz.prog.bytesOf e) (by simp[DataW.weights,L]);rw[Y] at this;simp at this;rw[show len+(m-len)=m by omega] at this;exact BX (Nat.mul_le_mul_right _ F) this
 have M:∀i,i<len->∃y,∃b o,a=(O b o)/\E KR w (λk=>w.cell? (O b (o+i*sz+k))) y:=λi hi=>by
  obtain⟨cs,z,N⟩:=t i (by omega);rw[Q] at z;obtain⟨_,g,f⟩:=World.cells?_some z
  obtain⟨y,Z⟩:=l n cs _ g N (λq V=>R q (by
   simp only[DataW.weights,L,List.mem_cons,List.mem_append];exact Or.inr (Or.inl (xvB (d:=D i) (by simp;exact⟨i,hi,rfl⟩) q V))))
  obtain⟨b,o,rfl⟩:∃b o,a=(O b o):=by
   obtain⟨r,k1,-⟩:=t 0 (by omega);rw[Q] at k1;obtain⟨_,p,c⟩:=World.cells?_some k1;have B:=c 0 (by omega);rw[Go.Deep.add_add,Nat.zero_mul,Nat.add_zero,List.getElem?_eq_getElem (by omega)] at B;exact xwO B
  refine⟨y,b,o,rfl,G.move Z (λ_ h=>h) (.refl _ _) λk hk u X=>?_⟩;have B:=f k (by omega);rw[Go.Deep.add_add,Addr.add_lit,← Nat.add_assoc] at B;rw[B];exact X
 obtain⟨xs,z,N⟩:=xuL len M;refine⟨xs,some a,cap,by rw[z],by rw[z];exact S,W,by rw[z];exact K,λi x t=>?_⟩;obtain⟨b,o,rfl,U⟩:=N i x t;exact⟨b,o,rfl,trivial,U⟩
theorem Mq {fs:Array Field}{e:TypeId}(g:Tryz.prog.underlying e=some (.struct fs)){xs:List (DataW H × List MemPlace)}{j:Nat}{f:Field}{y:DataW H × List MemPlace}(b:fs[j]?=some f)(a:xs[j]?=some y):∀n∈y.1.weights Tryz.prog f.type,n∈(DataW.agg (xs.map (·.1))).weights Tryz.prog e:=by
 intro n c;simp only[DataW.weights,g];refine DataW.weights_mem_each (j:=j) (t:=f.type) (d:=y.1) ?_ ?_ n c
 ·rw[List.getElem?_map];simp[b]
 rw[List.getElem?_map,a];rfl
theorem xvL {n:Nat}{cs:List Value}{x:DataW H × List MemPlace}(f:cs.length=2)(h:DataW.trod enc Tryz.prog w base spare held n 41 cs=some x):∃y,KY KR w (λk=>cs[k]?) y:=by
 obtain⟨xs,k,g,d,_,c,e⟩:=DataW.trod_struct Tryz.underlying41 h
 match xs,c,cs,f with
 | [y0,y1],_,[v0,v1],_=>
  have g0:=e 0 _ rfl;have g1:=e 1 _ rfl;simp[xvE] at g0 g1;obtain⟨a,e0,-,-⟩:=DataW.trod_int Tryz.underlying3 g0;obtain⟨b,e1,-,-⟩:=DataW.trod_int Tryz.underlying3 g1;simp at e0 e1;subst e0 e1;exact⟨⟨a,b⟩,rfl,rfl⟩
theorem xv6 {n:Nat}{cs:List Value}{x:DataW H × List MemPlace}(m:cs.length=5)(h:DataW.trod enc Tryz.prog w base spare held n 69 cs=some x)(i:∀n∈x.1.weights Tryz.prog 69,n<=140737488351232):∃y,KT KR w (λk=>cs[k]?) y:=by
 obtain⟨xs,k,o,f,_,e,g⟩:=DataW.trod_struct Tryz.underlying69 h
 match xs,e,cs,m with
 | [y0,y1,y2,y3,y4],_,[v0,v1,v2,v3,v4],_=>
  have g0:=g 0 _ rfl;have g1:=g 1 _ rfl;have g2:=g 2 _ rfl;have g3:=g 3 _ rfl;have g4:=g 4 _ rfl;simp[xvE,xvI] at g0 g1 g2 g3 g4;obtain⟨a,e0,-,-⟩:=DataW.trod_int Tryz.underlying3 g0;obtain⟨b,e1,-,-⟩:=DataW.trod_int Tryz.underlying3 g1;obtain⟨c,e2,-,-⟩:=DataW.trod_int Tryz.underlying3 g2;obtain⟨d,e3,-,-⟩:=DataW.trod_int Tryz.underlying3 g3;obtain⟨s,e4,e5,-⟩:=DataW.trod_string Tryz.underlying9 g4;simp at e0 e1 e2 e3 e4;subst e0 e1 e2 e3 e4
  have l:s.size<=140737488351232:=by
   rw[f] at i;have:=i s.data.toList.length (Mq (j:=4) (xs:=[y0,y1,y2,y3,y4]) Tryz.underlying69 rfl rfl _ (by rw[e5];simp[DataW.weights]));simpa using this
  exact⟨⟨a,b,c,d,s⟩,rfl,rfl,rfl,rfl,rfl,l⟩
theorem xws {fuel:Nat}{v:Value}{x:DataW H × List MemPlace}(h:DataW.trod enc Tryz.prog w base spare held fuel 49 [v]=some x)(a:∀n∈x.1.weights Tryz.prog 49,n<=140737488351232):∃xs,Cm KR w v xs:=
 xu2 BR Tryz.underlying49 xxn xxG (by omega) (λn cs x b h a=>xv6 b h a) h a
theorem xwd {fuel:Nat}{v:Value}{x:DataW H × List MemPlace}(h:DataW.trod enc Tryz.prog w base spare held fuel 52 [v]=some x)(a:∀n∈x.1.weights Tryz.prog 52,n<=140737488351232):∃xs,CG KR w v xs:=
 xu2 BZ Tryz.underlying52 xwa xxC (by omega) (λn cs x b h a=>xvL b h) h a
theorem xwf {n:Nat}{cs:List Value}{x:DataW H × List MemPlace}(m:cs.length=5)(h:DataW.trod enc Tryz.prog w base spare held n 51 cs=some x)(g:∀n∈x.1.weights Tryz.prog 51,n<=140737488351232):∃y,Fk KR w (λk=>cs[k]?) y:=by
 obtain⟨xs,k,r,e,_,a,f⟩:=DataW.trod_struct Tryz.underlying51 h
 match xs,a,cs,m with
 | [y0,y1,y2,y3,y4],_,[v0,v1,v2,v3,v4],_=>
  have g0:=f 0 _ rfl;have g1:=f 1 _ rfl;have g2:=f 2 _ rfl;have g3:=f 3 _ rfl;have g4:=f 4 _ rfl;simp[xvE,xvI,xxq] at g0 g1 g2 g3 g4;rw[e] at g;obtain⟨s,e0,e5,-⟩:=DataW.trod_string Tryz.underlying9 g0;obtain⟨b,e1,-,-⟩:=DataW.trod_int Tryz.underlying3 g1;obtain⟨c,e2,-,-⟩:=DataW.trod_int Tryz.underlying3 g2;obtain⟨d,e3,-,-⟩:=DataW.trod_int Tryz.underlying3 g3;obtain⟨l,p⟩:=xws g4 (λq o=>g q (Mq (j:=4) (xs:=[y0,y1,y2,y3,y4]) Tryz.underlying51 rfl rfl q o));simp at e0 e1 e2 e3;subst e0 e1 e2 e3
  have i:s.size<=140737488351232:=by
   have:=g s.data.toList.length (Mq (j:=0) (xs:=[y0,y1,y2,y3,y4]) Tryz.underlying51 rfl rfl _ (by rw[e5];simp[DataW.weights]));simpa using this
  exact⟨⟨s,b,c,d,l⟩,rfl,rfl,rfl,rfl,i,_,rfl,p⟩
end
def xrh:List QM:=[⟨⟨#[42]⟩,1,0,3,[]⟩,⟨⟨#[43]⟩,1,0,1,[]⟩,⟨⟨#[45]⟩,1,0,2,[]⟩,⟨⟨#[60]⟩,1,0,4,[]⟩,⟨⟨#[61]⟩,1,0,5,[]⟩]
def xo1:List QC:=[⟨⟨#[79,98,106,101,99,116]⟩,-1,0,[]⟩,⟨⟨#[78,105,108]⟩,0,0,[]⟩,⟨⟨#[66,111,111,108]⟩,0,0,[]⟩,⟨⟨#[73,110,116]⟩,0,0,xrh⟩]
def xlV:QW:=⟨xo1,[],0⟩
theorem GZ {α:Type}{E:CT α}{sz bytes:Nat}{P:Nat->Prop}{w:qW}:IsRow E sz bytes P w (qN) []:=
 ⟨none,0,rfl,Bq _,by unfold maxLen;omega,by simp,λi x a=>by simp at a⟩
theorem Pq {P:Nat->Prop}{w:qW}(x:QM)(v:Value)(h:x.name.size<=140737488351232)(hv:Cm P w v x.code):Cells Fk 5 P w [qZ x.name,J x.args,J x.temps,J x.prim,v] [x]:=
 Cells.one xbj rfl ⟨rfl,rfl,rfl,rfl,h,v,rfl,hv⟩
theorem xeV {P:Nat->Prop}{w:qW}(x:QC)(v:Value)(h:x.name.size<=140737488351232)(hv:EC P w v x.mz):Cells Kd 4 P w [qZ x.name,J x.super,J x.slots,v] [x]:=
 Cells.one Bw rfl ⟨rfl,rfl,rfl,h,v,rfl,hv⟩
def xr7:List Value:=[qZ ⟨#[42]⟩,J 1,J 0,J 3,qN,qZ ⟨#[43]⟩,J 1,J 0,J 1,qN,qZ ⟨#[45]⟩,J 1,J 0,J 2,qN,qZ ⟨#[60]⟩,J 1,J 0,J 4,qN,qZ ⟨#[61]⟩,J 1,J 0,J 5,qN]
theorem xmx {P:Nat->Prop}{w:qW}:Cells Fk 5 P w xr7 xrh:=
 ((((Pq ⟨⟨#[42]⟩,1,0,3,[]⟩ _ (by decide) GZ).append xbj (Pq ⟨⟨#[43]⟩,1,0,1,[]⟩ _ (by decide) GZ)).append xbj (Pq ⟨⟨#[45]⟩,1,0,2,[]⟩ _ (by decide) GZ)).append xbj (Pq ⟨⟨#[60]⟩,1,0,4,[]⟩ _ (by decide) GZ)).append xbj (Pq ⟨⟨#[61]⟩,1,0,5,[]⟩ _ (by decide) GZ)
def xqn (v:Value):List Value:=[qZ ⟨#[79,98,106,101,99,116]⟩,J (-1),J 0,qN,qZ ⟨#[78,105,108]⟩,J 0,J 0,qN,qZ ⟨#[66,111,111,108]⟩,J 0,J 0,qN,qZ ⟨#[73,110,116]⟩,J 0,J 0,v]
theorem xmq {P:Nat->Prop}{w:qW}{v:Value}(h:EC P w v xrh):Cells Kd 4 P w (xqn v) xo1:=
 (((xeV ⟨⟨#[79,98,106,101,99,116]⟩,-1,0,[]⟩ _ (by decide) GZ).append Bw (xeV ⟨⟨#[78,105,108]⟩,0,0,[]⟩ _ (by decide) GZ)).append Bw (xeV ⟨⟨#[66,111,111,108]⟩,0,0,[]⟩ _ (by decide) GZ)).append Bw (xeV ⟨⟨#[73,110,116]⟩,0,0,xrh⟩ v (by decide) h)
theorem xyh {n b:Nat}{w W:qW}(h:Below n w W)(a:n<=b)(x y z:Value):Below n w (((W.setCell (O b 0) x).setCell (O b 1) y).setCell (O b 2) z):=((h.setCell a _).setCell a _).setCell a _
def FK (a b:ByteArray):Bool:=Op.bytesLess a.toList b.toList
def xlo (ms:List QM):Prop:=∀(i:Nat) x y,ms[i]?=some x->ms[i+1]?=some y->FK x.name y.name=true
structure NextR where
 need:Int
 more:Int
 next:List Int
def Cb (x:QI)(at':Int):NextR:=
 if x.op=9\/x.op=11\/x.op=12 then ⟨1,-1,[at'+1]⟩
 else if x.op=10 then ⟨1,1,[at'+1]⟩
 else if x.op=14 then ⟨x.a+1,-x.a,[at'+1]⟩
 else if x.op=15 then ⟨0,0,[x.a]⟩
 else if x.op=16 then ⟨1,-1,[at'+1,x.a]⟩
 else if x.op=17 then ⟨1,-1,[]⟩
 else ⟨0,1,[at'+1]⟩
def Lr (code:List QI):Prop:=∀x∈code,x.op=14->0<=x.a/\x.a<=4
theorem xeC {x:QI}(h:x.op=14->0<=x.a/\x.a<=4)(p:Int):0<=(Cb x p).need/\(Cb x p).need<=5/\-4<=(Cb x p).more/\(Cb x p).more<=1/\0<=(Cb x p).need+(Cb x p).more/\(Cb x p).next.length<=2:=by
 unfold Cb;by_cases h14:x.op=14
 ·obtain⟨b,c⟩:=h h14;simp[h14];omega
 (repeat' split)<;>simp_all
def LK (code:List QI)(p:Int):Option QI:=if 0<=p then code[p.toNat]? else none
theorem xdW {code:List QI}{p:Int}{x:QI}(h:LK code p=some x):∃k:Nat,p=(k:Int)/\code[k]?=some x:=by
 unfold LK at h;split at h
 ·exact⟨p.toNat,by omega,h⟩
 cases h
theorem xj3 {code:List QI}{p:Int}:LK code p=none ↔ p<0\/(code.length:Int)<=p:=by
 unfold LK;split
 ·rw[List.getElem?_eq_none_iff];omega
 simp;omega
def Ff (code:List QI)(h:List Int)(p:Int × Int):(Int × Int) ⊕ (List Int × List (Int × Int)):=
 match LK code p.1 with
 | none=>.inl (9,(code.length:Int))
 | some x=>
  if 0<=h.getD p.1.toNat 0 then if h.getD p.1.toNat 0≠p.2 then .inl (8,p.1) else .inr (h,[])
  else if p.2<(Cb x p.1).need\/x.op=17/\p.2≠1 then .inl (8,p.1)
  else if 12<p.2+(Cb x p.1).more then .inl (4,p.1)
  else .inr (h.set p.1.toNat p.2,(Cb x p.1).next.map λt=>(t,p.2+(Cb x p.1).more))
def Gp (code:List QI):Nat->List Int->List (Int × Int)->List Int × (Int × Int)
 | 0,h,_=>(h,(0,0))
 | _+1,h,[]=>(h,(0,0))
 | g+1,h,p :: q=>match Ff code h p with
  | .inl f=>([],f)
  | .inr (h',new)=>Gp code g h' (q++new)
def Kl (h:List Int)(q:List (Int × Int)):Nat:=q.length+2*h.countP (λv=>decide (v<0))
def Lg (n:Nat):List Int:=List.replicate n (-1)
def DN (code:List QI):List Int × (Int × Int):=Gp code (2*code.length+1) (Lg code.length) [(0,0)]
theorem xmI {h:List Int}{k:Nat}{v:Int}(d:h.getD k 0<0)(hv:0<=v)(c:k<h.length):(h.set k v).countP (λv=>decide (v<0))+1=h.countP (λv=>decide (v<0)):=by
 induction h generalizing k with
 | nil=>simp at c
 | cons a r ih=>
  cases k with
  | zero=>
   have:a<0:=by simpa using d
   have b:¬ v<0:=by omega
   simp[List.set,this,b]
  | succ k=>
   simp only[List.set,List.countP_cons];have:=ih (k:=k) (by simpa using d) (by simpa using c);omega
structure HInv (code:List QI)(h:List Int)(q:List (Int × Int)):Prop where
 len:h.length=code.length
 wait:∀p∈q,0<=p.2/\p.2<=12
theorem HInv.start (code:List QI):HInv code (Lg code.length) [(0,0)]:=⟨by simp[Lg],λp a=>by simp at a;subst a;simp⟩
theorem xg0 (code:List QI):Kl (Lg code.length) [(0,0)]=2*code.length+1:=by
 simp[Kl,Lg,List.countP_replicate];omega
theorem HInv.step {code:List QI}{h h':List Int}{p:Int × Int}{q a:List (Int × Int)}(g:HInv code h (p :: q))(o:Lr code)(f:Ff code h p=.inr (h',a)):HInv code h' (q++a)/\Kl h' (q++a)+1<=Kl h (p :: q):=by
 have u:=g.wait p (by simp);have n:∀r∈q,0<=r.2/\r.2<=12:=λr m=>g.wait r (by simp[m]);unfold Ff at f
 cases j:LK code p.1 with
 | none=>rw[j] at f;cases f
 | some x=>
  rw[j] at f;simp only at f;obtain⟨k,y,b⟩:=xdW j;have m:=xeC (x:=x) (o x (List.mem_of_getElem? b)) p.1;split at f
  ·split at f
   ·cases f
   simp only[Sum.inr.injEq,Prod.mk.injEq] at f;obtain⟨rfl,rfl⟩:=f;exact⟨⟨g.len,by simpa using n⟩,by simp[Kl];omega⟩
  rename_i e;split at f
  ·cases f
  rename_i c;split at f
  ·cases f
  rename_i d;simp only[Sum.inr.injEq,Prod.mk.injEq] at f;obtain⟨rfl,rfl⟩:=f
  have s:p.1.toNat<h.length:=by
   have:=Bz b;rw[g.len];omega
  have z:=xmI (h:=h) (k:=p.1.toNat) (v:=p.2) (by omega) u.1 s;refine⟨⟨by rw[List.length_set];exact g.len,λr l=>?_⟩,?_⟩
  ·rcases List.mem_append.1 l with i | i
   ·exact n r i
   obtain⟨t,-,rfl⟩:=List.mem_map.1 i;have:¬ (p.2<(Cb x p.1).need):=λh=>c (Or.inl h);simp only;omega
  simp only[Kl,List.length_append,List.length_map,List.length_cons];omega
theorem xeZ {code:List QI}{h:List Int}{p f:Int × Int}(a:Ff code h p=.inl f):f.1≠0:=by
 unfold Ff at a
 cases b:LK code p.1 with
 | none=>rw[b] at a;simp at a;rw[← a];simp
 | some x=>
  rw[b] at a;simp only at a
  (repeat' split at a)<;>simp at a<;>rw[← a]<;>simp
theorem xcf {h:List Int}{k j:Nat}{v:Int}(a:k≠j):(h.set k v).getD j 0=h.getD j 0:=by simp[List.getElem?_set_ne a]
def ownsAt (w:qW)(base:Nat)(e:TypeId)(sz:Nat)(v:Value)(n:Nat)(xs:List Value):Prop:=
 xs.length=n*sz/\((v=qN/\n=0)\/∃g o cap cur,v=qS (some (O g o)) n cap/\base<=g/\w.heap[g]?=some (.cells cur e (0,0))/\n<=cap/\cap<=maxLen/\o+cap*sz<=cur.size/\(cur.toList.drop o).take (n*sz)=xs)
theorem ownsAt.keep {w w':qW}{base:Nat}{e:TypeId}{sz:Nat}{v:Value}{n:Nat}{xs:List Value}(h:ownsAt w base e sz v n xs)(d:∀g,v.ownBlock=some g->w'.heap[g]?=w.heap[g]?):ownsAt w' base e sz v n xs:=by
 obtain⟨a,f | ⟨g,o,cap,cur,rfl,i,b,c⟩⟩:=h
 ·exact⟨a,Or.inl f⟩
 exact⟨a,Or.inr ⟨g,o,cap,cur,rfl,i,by rw[d g (by simp[Value.ownBlock])];exact b,c⟩⟩
theorem ownsAt.lt {w:qW}{base:Nat}{e:TypeId}{sz:Nat}{v:Value}{n:Nat}{xs:List Value}(h:ownsAt w base e sz v n xs):∀g,v.ownBlock=some g->base<=g/\g<w.heap.size:=by
 obtain⟨f,c | ⟨g,o,cap,cur,rfl,d,b,i⟩⟩:=h
 ·intro g a;rw[c.1] at a;cases a
 intro g' a;simp[Value.ownBlock] at a;subst a;exact⟨d,By b⟩
theorem ownsAt.alloc {w:qW}{base:Nat}{e:TypeId}{sz:Nat}{v:Value}{n:Nat}{xs:List Value}(h:ownsAt w base e sz v n xs)(o:Obj):ownsAt (w.alloc o) base e sz v n xs:=
 h.keep λg a=>(Bg w o).block _ (h.lt g a).2
theorem ownsAt.form {w:qW}{base:Nat}{e:TypeId}{sz:Nat}{v:Value}{n:Nat}{xs:List Value}(h:ownsAt w base e sz v n xs):∃a cap,v=qS a n cap/\n<=cap/\cap<=maxLen:=by
 obtain⟨-,⟨rfl,rfl⟩ | ⟨g,o,cap,cur,rfl,-,-,b,c,-⟩⟩:=h
 ·exact⟨none,0,rfl,Bq _,by unfold maxLen;omega⟩
 exact⟨_,cap,rfl,b,c⟩
theorem xeb {g:Nat}{t:TypeId}:∀(vs:List Value) (o:Nat) (w:qW) (cur:Array Value),w.heap[g]?=some (.cells cur t (0,0))->o+vs.length<=cur.size->(w.setCells g o vs).heap[g]?=some (.cells (cur.toList.take o++vs++cur.toList.drop (o+vs.length)).toArray t (0,0))
 | [],o,w,cur,h,hl=>by simpa [World.setCells] using h
 | v :: vs,o,w,cur,h,hl=>by
  simp only[List.length_cons] at hl;unfold World.setCells;rw[xeb vs (o+1) _ _ (BW h v) (by simp;omega)]
  congr 3
  apply List.ext_getElem?
  intro i;simp only[Array.toList_setIfInBounds,List.length_cons,List.getElem?_append,List.length_append,List.length_take,List.length_set,Array.length_toList,List.getElem?_take,List.getElem?_drop,List.getElem?_set,List.getElem?_cons];have e1:min (o+1) cur.size=o+1:=by omega
  have e2:min o cur.size=o:=by omega
  rw[e1,e2];by_cases h1:i<o
  ·simp[h1,show i<o+1 by omega,show i<o+1+vs.length by omega,show i<o+(vs.length+1) by omega,show ¬ o=i by omega]
  by_cases h2:i=o
  ·subst h2;simp[show i<i+1+vs.length by omega,show i<cur.size by omega]
  by_cases h3:i<o+1+vs.length
  ·obtain⟨d,rfl⟩:∃d,i=o+1+d:=⟨i-(o+1),by omega⟩
   simp[show ¬ (o+1+d<o) by omega,h3,show o+1+d<o+(vs.length+1) by omega,show ¬ (o+1+d<o+1) by omega,show o+1+d-(o+1)=d by omega,show o+1+d-o=d+1 by omega]
  have a:¬ (i<o+(vs.length+1)):=by omega
  simp only[h3,a,if_false,show ¬ i<o by omega];rw[show o+1+vs.length+(i-(o+1+vs.length))=i by omega,show o+(vs.length+1)+(i-(o+(vs.length+1)))=i by omega];simp[show ¬ o=i by omega]
theorem MK (g:Nat):∀(vs:List Value) (o:Nat) (w:qW),Below g w (w.setCells g o vs)
 | [],o,w=>Br _ _
 | v :: vs,o,w=>by
  unfold World.setCells;exact ((Br g w).setCell (Bq g) _).trans (MK g vs (o+1) _)
theorem xe3 {w:qW}{base a:Nat}{e:TypeId}{sz:Nat}{v:Value}{n:Nat}{xs:List Value}(h:w.ownsRow a e sz v n xs)(l:base<=a):ownsAt w base e sz v n xs:=by
 obtain⟨b,j | ⟨g,c,cur,e,o,d,f,i,m,k⟩⟩:=h
 ·exact⟨b,Or.inl j⟩
 exact⟨b,Or.inr ⟨g,0,c,cur,e,by omega,d,f,i,by omega,by simpa using k⟩⟩
theorem xcQ {w:qW}(T ty e:TypeId)(z:Value)(sz bytes:Nat)(R:Tryz.prog.underlying T=some (.slice e))(Z:(Tryz.prog.info? e).map (λi=>(i.zero,i.size,i.bytes))=some (some z,sz,bytes))(s:z.cells.size=sz)(q:0<sz)
  (base n:Nat) (v:Value) (xs:List Value) (p:ownsAt w base e sz v n xs) (Bb:Nat) (a:List Value) (X:a.length=sz) (Y:w.heap[Bb]?=some (.cells a.toArray e (0,0))) (V:∀u∈a,u.oneCell'=true) (r:n+1<=maxLen) (t:(n+1)*bytes<=140737488355328) (d:base<=w.heap.size) :
  ∃v' w',(Builtin.append_ #[T,T] ty #[v,qG Bb 1 1]).run Tryz.prog w=.ok v' w'/\ownsAt w' base e sz v' (n+1) (xs++a)/\(v'.ownBlock=v.ownBlock\/∃g,v'.ownBlock=some g/\w.heap.size<=g)/\Below base w w'/\(∀b,b<w.heap.size->some b≠v.ownBlock->w'.heap[b]?=w.heap[b]?):=by
 obtain⟨i0,U,y,f,m⟩:=Gb Z;have C:∀j u,a[j]?=some u->w.cell? (((O Bb 0):Addr).add j)=some u:=λj u F=>by rw[Addr.add_lit,Nat.zero_add,Bn Y];simpa using F
 obtain⟨l,⟨rfl,rfl⟩ | ⟨g,o,cap,cur,rfl,K,G,h5,h6,h7,W⟩⟩:=id p
 ·obtain⟨v',w',B,r1,r2,_⟩:=run_append_own (P:=Tryz.prog) w w.heap.size T ty e i0 z sz bytes R U y f m s q (qN) 0 [] (World.ownsRow_nil w _ e sz) (O Bb 0) 1 1 a (by omega) C V r t (Bq _);have N:xs=[]:=List.eq_nil_of_length_eq_zero (by simpa using l);subst N;refine⟨v',w',B,xe3 (by simpa using r1) d,Or.inr ?_,?_,λb M D=>r2.block b M D⟩
  ·obtain⟨-,h | ⟨g,c,cur,e,K,G,-⟩⟩:=r1
   ·omega
   exact⟨g,by rw[e];rfl,K⟩
  exact (Br _ _).grown r2 d λk L=>by cases L
 by_cases hr:n+1<=cap
 ·have S:cur.toList.length=cur.size:=by simp
  have Q:o+n*sz+a.length<=cur.size:=by
   have:(n+1)*sz<=cap*sz:=Nat.mul_le_mul_right _ hr;rw[Nat.add_mul] at this;omega
  have B:=run_append_room_cells (P:=Tryz.prog) w T ty e i0 R U g o n cap (O Bb 0) 1 1 a (by rw[f];omega) C V hr (λj hj=>by rw[f,Bn G];simp;omega) (λj hj=>by unfold World.frozen?;simp[G]);rw[f] at B;have H:=xeb a (o+n*sz) w cur G Q;refine⟨_,_,B,⟨by rw[List.length_append,l,X,Nat.add_mul];omega,Or.inr ⟨g,o,cap,_,rfl,K,H,hr,h6,?_,?_⟩⟩,Or.inl rfl,?_,λb M D=>Er (λe=>D (by rw[e];rfl)) _ _ _⟩
  ·simp;omega
  ·rw[← W]
   apply List.ext_getElem?
   intro i;simp only[List.getElem?_take,List.getElem?_drop,List.getElem?_append,List.length_append,List.length_take,List.length_drop,S];have e1:min (o+n*sz) cur.size=o+n*sz:=by omega
   have e2:min (n*sz) (cur.size-o)=n*sz:=by omega
   rw[e1,e2];have e3:(n+1)*sz=n*sz+sz:=by rw[Nat.add_mul];omega
   rw[e3];by_cases g1:i<n*sz
   ·simp[g1,show i<n*sz+sz by omega,show o+i<o+n*sz by omega,show o+i<o+n*sz+a.length by omega]
   by_cases g2:i<n*sz+sz
   ·simp[g1,g2,show ¬ (o+i<o+n*sz) by omega,show o+i<o+n*sz+a.length by omega,show o+i-(o+n*sz)=i-n*sz by omega]
   simp[g1,g2];omega
  refine⟨?_,?_,?_,?_,λk L=>Er (by omega) _ _ _⟩
  ·exact (MK _ _ _ _).os
  ·exact (MK _ _ _ _).tape
  ·exact (MK _ _ _ _).output
  rw[Ks];exact Bq _
 obtain⟨v',w',B,r1,r2⟩:=run_append_arg_grows (P:=Tryz.prog) w T ty e i0 z sz bytes R U y f m s q (O g o) n cap xs l (λj u F=>by
  rw[Addr.add_lit,Bn G];rw[← W,List.getElem?_take] at F;split at F
  ·rw[List.getElem?_drop] at F;simpa using F
  ·cases F) (O Bb 0) 1 1 a (by omega) C (by omega) r t
 refine⟨v',w',B,xe3 r1 d,Or.inr ?_,?_,λb M D=>r2.block b M (by simp)⟩
 ·obtain⟨-,h | ⟨g,c,cur,e,K,G,-⟩⟩:=r1
  ·omega
  exact⟨g,by rw[e];rfl,K⟩
 exact (Br _ _).grown r2 d λk L=>by cases L
theorem Pv {ops:Array Oper}{rest:List Oper}{o:Oper}{a:Act}{w:qW}{Q:Exit->Act->World->Prop}(q:o.guard=none)(s x:Operand)(T e:TypeId)(z:Value)(sz bytes:Nat)
  (p:o.op=Op.call { callee:=Callee.builtin Builtin.append,args:=#[s,x],argTypes:=#[T,T] }) (t:Tryz.prog.underlying T=some (.slice e)) (D:(Tryz.prog.info? e).map (λi=>(i.zero,i.size,i.bytes))=some (some z,sz,bytes)) (l:z.cells.size=sz) (j:0<sz)
  (base n:Nat) (v:Value) (xs:List Value) (y:a.eval s=v) (f:ownsAt w base e sz v n xs) (Bb:Nat) (H:a.eval x=qG Bb 1 1) (c:List Value) (F:c.length=sz) (G:w.heap[Bb]?=some (.cells c.toArray e (0,0))) (B:∀u∈c,u.oneCell'=true) (k:n+1<=maxLen) (m:(n+1)*bytes<=140737488355328) (d:base<=w.heap.size)
  (C:∀a' cap' w',ownsAt w' base e sz (qS a' (n+1) cap') (n+1) (xs++c)->((qS a' (n+1) cap').ownBlock=v.ownBlock\/∃g,(qS a' (n+1) cap').ownBlock=some g/\w.heap.size<=g)->Below base w w'->(∀b,b<w.heap.size->some b≠v.ownBlock->w'.heap[b]?=w.heap[b]?)->wpList Tryz.prog ops Q rest (a.put o.dst (qS a' (n+1) cap')) w') :
  wpList Tryz.prog ops Q (o :: rest) a w:=by
 refine wpList_plain q λK r=>?_;obtain⟨v',w',h,r1,r2,r3,r4⟩:=xcQ T o.type e z sz bytes t D l j base n v xs f Bb c F G B k m d;obtain⟨a',cap',rfl,-⟩:=r1.form;unfold Oper.wp;simp[execOp,p,resolve,invoke,builtin,y,H,h,Result.andThen];exact r _ _ (C a' cap' w' r1 r2 r3 r4)
def FD:List (Int × Int)->List Value
 | []=>[]
 | p :: q=>J p.1 :: J p.2 :: FD q
theorem xh0:∀q,(FD q).length=q.length*2
 | []=>rfl
 | p :: q=>by simp[FD,xh0 q];omega
theorem xfl:∀q r,FD (q++r)=FD q++FD r
 | [],r=>rfl
 | p :: q,r=>by simp[FD,xfl q r]
structure LedF (w w':qW)(bl:Nat)(v v':Value):Prop where
 bel:Below bl w w'
 blk:∀b,b<w.heap.size->b≠bl->some b≠v.ownBlock->w'.heap[b]?=w.heap[b]?
 own:v'.ownBlock=v.ownBlock\/∃g,v'.ownBlock=some g/\w.heap.size<=g
theorem LedF.trans {w w' w'':qW}{bl:Nat}{v v' v'':Value}(h:LedF w w' bl v v')(k:LedF w' w'' bl v' v''):LedF w w'' bl v v'':=by
 refine⟨h.bel.trans k.bel,λb f a c=>?_,?_⟩
 ·rw[k.blk b (Cd f h.bel.size) a ?_,h.blk b f a c];rcases h.own with e | ⟨g,e,d⟩
  ·rw[e];exact c
  rw[e];intro e';cases e';omega
 rcases k.own with e | ⟨g,e,d⟩
 ·rw[e];exact h.own
 exact Or.inr ⟨g,e,BX h.bel.size d⟩
theorem LedF.of_below {w w':qW}(bl:Nat)(v:Value)(c:qY w w')(a:bl<=w.heap.size):LedF w w' bl v v:=⟨c.mono a,λb h _ _=>c.block b h,Or.inl rfl⟩
theorem Bs {w w':qW}{B:Nat}{o:Obj}(h:w.heap[B]?=some o)(a:qY w w'):w'.heap[B]?=some o:=by rw[a.block _ (By h)];exact h
abbrev IV (x:QI):Value:=.agg #[J x.op,J x.a,J x.b,J x.c,qZ x.name]
theorem CM {n:Int}(a:-9223372036854775808<=n)(b:n<=9223372036854775807):IntKind.i64.wrap n=n:=by rw[IntKind.wrap_i64];omega
def GQ (x:QI)(p n:Int):Int × Int:=if n<(Cb x p).need\/x.op=17/\n≠1 then (0,8) else if 12<n+(Cb x p).more then (0,4) else (n+(Cb x p).more,0)
def NG (h:List Int):List Value:=h.map λx=>J x
abbrev xew (h:List Int):Obj:=.cells (NG h).toArray 3 (0,0)
theorem xfj {w:qW}{g:Nat}{h:List Int}(b:w.heap[g]?=some (xew h)){k:Nat}(a:k<h.length):w.cell? (O g k)=some (J (h.getD k 0)):=by
 rw[Bn b];simp[NG,a]
theorem xe2 {w:qW}{g:Nat}{h:List Int}(a:w.heap[g]?=some (xew h))(k:Nat):w.frozen? (O g k)=false:=by unfold World.frozen?;simp[a]
theorem Ql {w:qW}{g:Nat}{h:List Int}(a:w.heap[g]?=some (xew h))(k:Nat)(v:Int):(w.setCell (O g k) (J v)).heap[g]?=some (xew (h.set k v)):=by
 rw[BW a];simp[NG,List.map_set]
structure ArrF (w w':qW)(lo bl gh:Nat)(v v':Value):Prop where
 bel:Below lo w w'
 blk:∀b,b<w.heap.size->b≠bl->b≠gh->some b≠v.ownBlock->w'.heap[b]?=w.heap[b]?
 own:v'.ownBlock=v.ownBlock\/∃g,v'.ownBlock=some g/\w.heap.size<=g
abbrev FV (f:Int × Int):Value:=.agg #[J f.1,J f.2]
theorem xgW (n:Nat)(g:n*8<=140737488351232)(w:qW):(Instr.makeSlice 47 (J (n:Int)) (J (n:Int))).run Tryz.prog w=.ok (qG w.heap.size n n) (w.alloc (xew (List.replicate n 0))):=by
 obtain⟨i0,d,b,c,a⟩:=Gb xsm;have:=run_make (P:=Tryz.prog) w 47 3 i0 _ Tryz.underlying47 d b .i64 .i64 n n (by omega) (by omega) (by rw[a];omega) (by omega);rw[this,c];simp[madeCells,Value.cells,xew,NG]
 congr 2
 apply Array.ext
 ·simp
 intro i e f;simp[Nat.mod_one]
theorem xp8 {n j:Nat}(h:j<n):(List.replicate j (-1:Int)++List.replicate (n-j) 0).set j (-1)=List.replicate (j+1) (-1)++List.replicate (n-(j+1)) 0:=by
 apply List.ext_getElem?
 intro i;simp only[List.getElem?_set,List.getElem?_append,List.length_append,List.length_replicate,List.getElem?_replicate];by_cases h1:i=j
 ·subst h1;simp;omega
 by_cases h2:i<j
 ·simp[h2,show i<j+1 by omega,show ¬ j=i by omega]
 simp only[show ¬ j=i by omega,if_false,h2,show ¬ (i<j+1) by omega];by_cases h3:i<n
 ·rw[if_pos (by omega),if_pos (by omega)]
 rw[if_neg (by omega),if_neg (by omega)]
theorem ownsAt.head {w:qW}{base:Nat}{e:TypeId}{a:Option Addr}{cap:Nat}{p:Int × Int}{q:List (Int × Int)}(h:ownsAt w base e 2 (qS a (q.length+1) cap) (q.length+1) (FD (p :: q))):∃g o,a=some (O g o)/\w.cell? (O g o)=some (J p.1)/\w.cell? (O g (o+1))=some (J p.2)/\q.length+1<=cap/\cap<=maxLen/\
  (∀o',(o'=o+2\/cap=1/\o'=o)->ownsAt w base e 2 (qS (some (O g o')) q.length (cap-1)) q.length (FD q)):=by
 obtain⟨r,⟨e,-⟩ | ⟨g,o,cap',cur,e,n,d,k,l,u,f⟩⟩:=h
 ·cases e
 cases e;have s:2*(q.length+1)<=cap*2:=by omega
 have b:∀j,j<(q.length+1)*2->w.cell? (O g (o+j))=(FD (p :: q))[j]?:=λj m=>by
  rw[← f,Bn d,List.getElem?_take,if_pos m,List.getElem?_drop];simp
 refine⟨g,o,rfl,?_,?_,k,l,λo' c=>⟨by rw[xh0],Or.inr ⟨g,o',cap-1,cur,rfl,n,d,by omega,by unfold maxLen at *;omega,by omega,?_⟩⟩⟩
 ·have:=b 0 (by omega);simpa [FD] using this
 ·have:=b 1 (by omega);simpa [FD] using this
 rcases c with rfl | ⟨t,rfl⟩
 ·apply List.ext_getElem?
  intro i;have e1:(FD q)[i]?=(FD (p :: q))[i+2]?:=by simp[FD]
  rw[e1,← f];simp only[List.getElem?_take,List.getElem?_drop];rw[show o+2+i=o+(i+2) by omega];by_cases h9:i<q.length*2
  ·rw[if_pos h9,if_pos (by omega)]
  rw[if_neg h9,if_neg (by omega)]
 have:q.length=0:=by omega
 obtain rfl:=List.eq_nil_of_length_eq_zero this;simp[FD]
theorem ArrF.below {w w':qW}{lo bl gh B:Nat}{v v':Value}(h:ArrF w w' lo bl gh v v')(c:B<=bl)(f:B<=gh)(a:∀g,v.ownBlock=some g->B<=g)(d:B<=w.heap.size):Below B w w':=
 ⟨h.bel.os,h.bel.tape,h.bel.output,h.bel.size,λb i=>h.blk b (by omega) (by omega) (by omega) λe=>by have:=a b e.symm;omega⟩
def xpV (w:qW)(code:List QI)(e:Ending)(w':qW):Prop:=
 qY w w'/\(((DN code).2.1=0/\∃g,e=.returned (.tuple #[qG g code.length code.length,FV (0,0)])/\w'.heap[g]?=some (xew (DN code).1)/\w.heap.size<=g)\/
  ((DN code).2.1≠0/\e=.returned (.tuple #[qN,FV (DN code).2])))
def Kt (s:Int)(_:Nat)(x:QC):Int × Bool:=(IntKind.i64.wrap (s+x.slots),true)
def Cs (xs:List QC)(c:Int):Int:=Df Kt xs (xs.length+1) c 0
theorem xgY {xs:List QC}(a:Hj xs)(d:xs.length*56<=140737488351232):∀(n:Nat) (c s:Int),0<=s->s+6*n<=9000000000000000000->Df Kt xs n c s=Df Hy xs n c s
 | 0,c,s,h,_=>rfl
 | n+1,c,s,h,h2=>by
  unfold Df
  cases f:Cy xs c with
  | none=>rfl
  | some x=>
   obtain⟨k,rfl,b⟩:=Gl f;obtain⟨i,g⟩:=a k x b;have e:IntKind.i64.wrap (s+x.slots)=s+x.slots:=CM (by omega) (by omega);simp only[Kt,Hy,if_true,e];exact xgY a d n x.super (s+x.slots) (by omega) (by omega)
theorem xpF {xs:List QC}(a:Hj xs)(b:xs.length*56<=140737488351232)(c:Int):Cs xs c=DY xs c:=xgY a b _ c 0 (by omega) (by omega)
def SlRW {P:Nat->Prop}(w0:qW)(cv:Value)(xs:List QC)(j:Nat)(s:Int)(w':qW):Prop:=
 qY w0 w'/\BK P w' cv xs/\w'.heap[w0.heap.size+1]?=some (qC #[J s] 3 (0,0))/\w'.cell? (O w0.heap.size 0)=some cv
def Cj (n low high:Int):Bool:=decide (low<=n/\n<=high)
def PW (s:ByteArray):Bool:=s.toList.isEmpty
def Kf (x:QI):Bool:=if x.op=14 then DC x.name else PW x.name
def Ew (S n:Int)(m:QM)(x:QI):Bool:=
 if x.op=2 then Cj x.a 0 (m.args-1)
 else if x.op=3\/x.op=11 then Cj x.a 0 (m.temps-1)
 else if x.op=4\/x.op=12 then Cj x.a 0 (IntKind.i64.wrap (S-1))
 else if x.op=15\/x.op=16 then Cj x.a 0 ((m.code.length:Int)-1)
 else if x.op=14 then Cj x.a 0 4
 else if x.op=5 then Cj x.a (-1073741824) 1073741824
 else if x.op=13 then decide (x.a=0) || Cj x.a 4 (n-1)
 else decide (x.a=0)
def DD (S n:Int)(m:QM)(x:QI):Int:=
 if Cj x.op 1 17=false then 1 else if Ew S n m x=false then 3 else if Kf x=false\/x.b≠0\/x.c≠0 then 2 else 0
def DF (n c:Int)(m:QM):Int:=
 if Cj c 0 (n-1)=false then 6 else if DC m.name=false then 7 else if Cj m.args 0 4=false\/Cj m.temps 0 6=false then 3 else if m.prim≠0 then 1 else if Cj m.code.length 1 60=false then 5 else 0
theorem xh4 {a0 a1 a2 a3:Addr}{v0 v1 v2 v3:Value}{W w w':qW}(h:w.cell? a0=some v0/\w.cell? a1=some v1/\w.cell? a2=some v2/\w.cell? a3=some v3/\qY W w)(a:qY w w'):w'.cell? a0=some v0/\w'.cell? a1=some v1/\w'.cell? a2=some v2/\w'.cell? a3=some v3/\qY W w':=
 ⟨Bf a h.1,Bf a h.2.1,Bf a h.2.2.1,Bf a h.2.2.2.1,Bh h.2.2.2.2 a⟩
def FX (f:QI->Int):Nat->List QI->Option (Int × Int)
 | _,[]=>none
 | k,x :: r=>if f x≠0 then some (f x,(k:Int)) else FX f (k+1) r
theorem xoT {f:QI->Int}:∀ {l:List QI} {k j:Nat} {x:QI},l[j]?=some x->f x≠0->(∀(i:Nat) y,i<j->l[i]?=some y->f y=0)->FX f k l=some (f x,((k+j:Nat):Int))
 | [],k,j,x,h,_,_=>by simp at h
 | z :: r,k,0,x,h,hx,_=>by
  simp at h;subst h;simp[FX,hx]
 | z :: r,k,j+1,x,h,hx,hp=>by
  have a:f z=0:=hp 0 z (by omega) rfl;unfold FX;rw[if_neg (by simp[a]),xoT (l:=r) (k:=k+1) (j:=j) (by simpa using h) hx λi y c b=>hp (i+1) y (by omega) (by simpa using b)]
  congr 3
  omega
theorem xgs {f:QI->Int}:∀ {l:List QI} {k:Nat},(∀(i:Nat) y,l[i]?=some y->f y=0)->FX f k l=none
 | [],k,_=>rfl
 | z :: r,k,hp=>by
  unfold FX;rw[if_neg (by simp[hp 0 z rfl])];exact xgs λi y a=>hp (i+1) y (by simpa using a)
theorem PR {f:QI->Int}:∀ {l:List QI} {k:Nat},FX f k l=none->∀x∈l,f x=0
 | [],k,_,x,a=>by simp at a
 | z :: r,k,h,x,a=>by
  unfold FX at h;by_cases h0:f z=0
  ·rw[if_neg (by simp[h0])] at h;rcases List.mem_cons.1 a with rfl | a
   ·exact h0
   exact PR h x a
  rw[if_pos h0] at h;cases h
def Em (S n c:Int)(m:QM):Int × Int:=
 if DF n c m≠0 then (DF n c m,0) else match FX (DD S n m) 0 m.code with
  | some f=>f
  | none=>(DN m.code).2
theorem xeU {S n:Int}{m:QM}{x:QI}(h:DD S n m x=0):x.op=14->0<=x.a/\x.a<=4:=λc=>by
 unfold DD at h;split at h
 ·cases h
 split at h
 ·cases h
 rename_i b;simp[Ew,c,Cj] at b;exact b
theorem xiN {n c:Int}{m:QM}(h:DF n c m=0):(0<=m.args/\m.args<=4)/\(0<=m.temps/\m.temps<=6)/\1<=m.code.length/\m.code.length<=60/\0<=c/\c<=n-1:=by
 unfold DF at h
 (repeat' split at h)<;>first | (exfalso;omega) | skip
 rename_i a f d e b;simp[Cj] at a d b;omega
theorem xsF {w:qW}{B:Nat}{x y:Value}{t:TypeId}(h:w.heap[B]?=some (qC #[x,y] t (0,0))):(∀q,w.cell? (O B q)=(#[x,y]:Array Value)[q]?)/\(∀o,w.frozen? (O B o)=false):=
 ⟨λq=>by rw[Bn h],λo=>by unfold World.frozen?;simp[h]⟩
theorem xmL {w:qW}{B:Nat}{x y:Value}{t:TypeId}(h:w.heap[B]?=some (qC #[x,y] t (0,0)))(u v:Value)(z:Obj):(((w.setCell (O B 0) u).setCell (O B 1) v).alloc z).cell? (O B 0)=some u/\(((w.setCell (O B 0) u).setCell (O B 1) v).alloc z).cell? (O B 1)=some v:=by
 have b:((w.setCell (O B 0) u).setCell (O B 1) v).heap[B]?=some (qC #[u,v] t (0,0)):=by rw[BW (BW h _) _];rfl
 have a:=Bs b (Bg _ z);exact⟨by rw[Bn a];rfl,by rw[Bn a];rfl⟩
theorem xjA {code:List QI}:∀(g:Nat) (h:List Int) (q:List (Int × Int)),(Gp code g h q).2.1=0->(Gp code g h q).2=(0,0)
 | 0,h,q,_=>rfl
 | g+1,h,[],_=>rfl
 | g+1,h,p :: q,he=>by
  unfold Gp at he ⊢
  cases b:Ff code h p with
  | inl f=>rw[b] at he;exact absurd he (xeZ b)
  | inr r=>
   obtain⟨h',a⟩:=r;rw[b] at he;exact xjA g h' (q++a) he
def CP {α:Type}(f:Nat->α->Int):Nat->List α->Int
 | _,[]=>0
 | k,x :: r=>if f k x≠0 then f k x else CP f (k+1) r
theorem xgN {α:Type}{f:Nat->α->Int}:∀ {l:List α} {k j:Nat} {x:α},l[j]?=some x->f (k+j) x≠0->(∀i y,i<j->l[i]?=some y->f (k+i) y=0)->CP f k l=f (k+j) x
 | a :: r,k,0,x,hx,h,_=>by
  simp at hx;subst hx;simp only[Nat.add_zero] at h ⊢;unfold CP;rw[if_pos h]
 | a :: r,k,j+1,x,hx,h,hn=>by
  have b:=hn 0 a (by omega) rfl;simp only[Nat.add_zero] at b;unfold CP;rw[if_neg (by simp[b]),xgN (k:=k+1) (j:=j) (x:=x) (by simpa using hx) (by rw[show k+1+j=k+(j+1) by omega];exact h) λi y d c=>by rw[show k+1+i=k+(i+1) by omega];exact hn (i+1) y (by omega) (by simpa using c)];rw[show k+1+j=k+(j+1) by omega]
theorem PH {α:Type}{f:Nat->α->Int}{l:List α}{j:Nat}{x:α}(c:l[j]?=some x)(h:f j x≠0)(d:∀i y,i<j->l[i]?=some y->f i y=0):CP f 0 l=f j x:=by
 have:=xgN (f:=f) (k:=0) (j:=j) c (by simpa using h) (λi y b a=>by simpa using d i y b a);simpa using this
theorem xdM {α:Type}{f:Nat->α->Int}:∀ {l:List α} {k:Nat},(∀i y,l[i]?=some y->f (k+i) y=0)->CP f k l=0
 | [],_,_=>rfl
 | a :: r,k,h=>by
  have b:=h 0 a rfl;simp only[Nat.add_zero] at b;unfold CP;rw[if_neg (by simp[b])];exact xdM λi y c=>by rw[show k+1+i=k+(i+1) by omega];exact h (i+1) y (by simpa using c)
theorem KL {α:Type}{f:Nat->α->Int}{l:List α}(h:∀i y,l[i]?=some y->f i y=0):CP f 0 l=0:=xdM λi y a=>by simpa using h i y a
theorem xdZ {α:Type}{f:Nat->α->Int}:∀ {l:List α} {k:Nat},CP f k l=0->∀i y,l[i]?=some y->f (k+i) y=0
 | a :: r,k,h,i,y,hy=>by
  unfold CP at h;split at h
  ·rename_i b;exact absurd h b
  rename_i b
  cases i with
  | zero=>simp at hy;subst hy;simpa using b
  | succ i=>rw[show k+(i+1)=k+1+i by omega];exact xdZ h i y (by simpa using hy)
theorem Hm {α:Type}{f:Nat->α->Int}{l:List α}(h:CP f 0 l=0):∀i y,l[i]?=some y->f i y=0:=λi y a=>by
 have:=xdZ h i y a;simpa using this
def Dj (n c:Int):Bool:=decide (c=0\/4<=c/\c<n)
def Gh (xs:List QC)(k:Nat)(name:ByteArray):Bool:=(xs.take k).any λd=>CD d.name name
theorem xyy {xs:List QC}{k i:Nat}{name:ByteArray}{d:QC}(b:i<k)(a:xs[i]?=some d)(h:CD d.name name=true):Gh xs k name=true:=by
 unfold Gh;rw[List.any_eq_true];exact⟨d,List.mem_of_getElem? (i:=i) (by rw[List.getElem?_take];simp[b,a]),h⟩
theorem xro {xs:List QC}{k:Nat}{name:ByteArray}(h:∀i d,i<k->xs[i]?=some d->CD d.name name=false):Gh xs k name=false:=by
 unfold Gh;rw[List.any_eq_false];intro d b;obtain⟨i,a⟩:=List.getElem?_of_mem b;rw[List.getElem?_take] at a;split at a
 ·rename_i c;have:=h i d c a;simp[this]
 cases a
def CY (xs:List QC)(k:Nat)(x:QC):Int:=
 if DC x.name=false then 7 else
 match xo1[k]? with
 | some y=>if CD x.name y.name=false then 7 else if Gh xs k x.name=true then 7 else if x.super≠y.super then 3 else if x.slots<0\/0<x.slots then 3 else 0
 | none=>if Gh xs k x.name=true then 7 else if Dj k x.super=false then 3 else if x.slots<0\/6<x.slots then 3 else 0
def Ft (k:Nat)(m:QM):Bool:=xrh.any λp=>decide (k=3) && CD p.name m.name && decide (p.prim=m.prim) && decide (m.args=1) && decide (m.temps=0) && decide (m.code.length=0)
def GW (ms:List QM)(i:Nat)(m:QM):Bool:=match i with
 | 0=>true
 | i+1=>match ms[i]? with
  | some p=>FK p.name m.name
  | none=>true
def Dn (X:QW)(k:Nat)(ms:List QM)(i:Nat)(m:QM):Int:=
 if GW ms i m=false then 7 else if Ft k m=true then 0 else (Em (Cs X.cz k) X.cz.length k m).1
def Dm (X:QW)(k:Nat)(x:QC):Int:=if 6<Cs X.cz k then 3 else if 8<x.mz.length then 5 else CP (Dn X k x.mz) 0 x.mz
def HG (k n h:Int):Int:=
 if k<0\/4<k then 1
 else if k<3 then (if n=0 then 0 else 2)
 else if k=3 then (if n < -1073741824\/1073741824<n then 3 else 0)
 else (if n<0\/h<=n then 6 else 0)
def Cn (h:Int)(v:QV):Int:=HG v.k v.n h
def Ev (X:QW)(_:Nat)(o:QO):Int:=
 if Dj X.cz.length o.cls=false\/(o.slots.length:Int)≠Cs X.cz o.cls then 8 else CP (λ_ v=>Cn X.heap.length v) 0 o.slots
def BM (X:QW):Int:=
 if X.cz.length<4\/12<X.cz.length\/60<X.heap.length then 5
 else if X.ez<0\/1073741824<X.ez then 3
 else if CP (CY X.cz) 0 X.cz≠0 then CP (CY X.cz) 0 X.cz
 else if CP (Dm X) 0 X.cz≠0 then CP (Dm X) 0 X.cz
 else CP (Ev X) 0 X.heap
structure SizeOk (X:QW):Prop where
 few:4<=X.cz.length
 many:X.cz.length<=12
 heap:X.heap.length<=60
 ep0:0<=X.ez
 ep1:X.ez<=1073741824
def ClsOk (X:QW)(j:Nat):Prop:=∀i x,i<j->X.cz[i]?=some x->CY X.cz i x=0
def xnl (X:QW)(j:Nat):Prop:=∀i x,i<j->X.cz[i]?=some x->Dm X i x=0
def xsh (X:QW)(j:Nat):Prop:=∀i x,i<j->X.heap[i]?=some x->Ev X i x=0
theorem xxX {X:QW}(h:X.cz.length<4\/12<X.cz.length\/60<X.heap.length):BM X=5:=by unfold BM;rw[if_pos h]
theorem xxZ {X:QW}(h:¬ (X.cz.length<4\/12<X.cz.length\/60<X.heap.length))(a:X.ez<0\/1073741824<X.ez):BM X=3:=by unfold BM;rw[if_neg h,if_pos a]
theorem xkw {X:QW}(h:SizeOk X):BM X=if CP (CY X.cz) 0 X.cz≠0 then CP (CY X.cz) 0 X.cz else if CP (Dm X) 0 X.cz≠0 then CP (Dm X) 0 X.cz else CP (Ev X) 0 X.heap:=by
 obtain⟨a,d,e,b,c⟩:=h;unfold BM;rw[if_neg (by omega),if_neg (by omega)]
theorem xx7 {X:QW}(h:SizeOk X){j:Nat}{x:QC}(b:X.cz[j]?=some x)(a:ClsOk X j){v:Int}(e:CY X.cz j x=v)(hv:v≠0):BM X=v:=by
 subst e;have:=PH b hv a;rw[xkw h,if_pos (by rw[this];exact hv),this]
theorem xoQ {X:QW}(h:ClsOk X X.cz.length):CP (CY X.cz) 0 X.cz=0:=KL λi y a=>h i y (Bz a) a
theorem xyr {X:QW}(h:SizeOk X)(a:ClsOk X X.cz.length){j:Nat}{x:QC}(c:X.cz[j]?=some x)(b:xnl X j){v:Int}(e:Dm X j x=v)(hv:v≠0):BM X=v:=by
 subst e;have:=PH c hv b;rw[xkw h,if_neg (by rw[xoQ a];simp),if_pos (by rw[this];exact hv),this]
theorem xml {X:QW}(h:xnl X X.cz.length):CP (Dm X) 0 X.cz=0:=KL λi y a=>h i y (Bz a) a
theorem xyB {X:QW}(h:SizeOk X)(a:ClsOk X X.cz.length){j:Nat}{x:QC}(f:X.cz[j]?=some x)(c:xnl X j)(s:¬ 6<Cs X.cz j)(n:¬ 8<x.mz.length){i:Nat}{m:QM}(d:x.mz[i]?=some m)(b:∀k y,k<i->x.mz[k]?=some y->Dn X j x.mz k y=0){v:Int}(e:Dn X j x.mz i m=v)(hv:v≠0):BM X=v:=by
 refine xyr h a f c ?_ hv;subst e;unfold Dm;rw[if_neg s,if_neg n,PH d hv b]
theorem xyp {X:QW}(h:SizeOk X)(a:ClsOk X X.cz.length)(b:xnl X X.cz.length){j:Nat}{x:QO}(d:X.heap[j]?=some x)(c:xsh X j){v:Int}(e:Ev X j x=v)(hv:v≠0):BM X=v:=by
 subst e;have:=PH d hv c;rw[xkw h,if_neg (by rw[xoQ a];simp),if_neg (by rw[xml b];simp),this]
theorem xyE {X:QW}(h:SizeOk X)(a:ClsOk X X.cz.length)(b:xnl X X.cz.length){j:Nat}{x:QO}(e:X.heap[j]?=some x)(d:xsh X j)(f:¬ (Dj X.cz.length x.cls=false\/(x.slots.length:Int)≠Cs X.cz x.cls)){i:Nat}{y:QV}(g:x.slots[i]?=some y)(c:∀k z,k<i->x.slots[k]?=some z->Cn X.heap.length z=0)(hv:Cn X.heap.length y≠0):BM X=Cn X.heap.length y:=by
 refine xyp h a b e d ?_ hv;unfold Ev;rw[if_neg f];exact PH (f:=λ_ v=>Cn X.heap.length v) g hv c
theorem xiv {X:QW}(h:SizeOk X)(b:ClsOk X X.cz.length)(c:xnl X X.cz.length)(d:xsh X X.heap.length):BM X=0:=by
 rw[xkw h,if_neg (by rw[xoQ b];simp),if_neg (by rw[xml c];simp)];exact KL λi y a=>d i y (Bz a) a
theorem Gx {X:QW}(h:BM X=0):SizeOk X/\ClsOk X X.cz.length/\xnl X X.cz.length/\xsh X X.heap.length:=by
 unfold BM at h;split at h
 ·cases h
 rename_i a1;split at h
 ·cases h
 rename_i a2;split at h
 ·rename_i a3;exact absurd h a3
 rename_i a3;split at h
 ·rename_i a4;exact absurd h a4
 rename_i a4;have b3:=Hm (Decidable.of_not_not a3);have b4:=Hm (Decidable.of_not_not a4);have b5:=Hm h;exact⟨⟨by omega,by omega,by omega,by omega,by omega⟩,λi x _ a=>b3 i x a,λi x _ a=>b4 i x a,λi x _ a=>b5 i x a⟩
theorem xvn {xs:List QC}{k:Nat}{x:QC}(h:CY xs k x=0):0<=x.slots/\x.slots<=6:=by
 unfold CY at h;split at h
 ·cases h
 split at h<;>(repeat' (split at h))<;>first | (cases h;done) | omega
theorem ClsOk.slots {X:QW}(h:ClsOk X X.cz.length):Hj X.cz:=λi x a=>xvn (h i x (Bz a) a)
theorem xwq {xs:List QC}{k:Nat}{x:QC}(h:CY xs k x=0):x.super<k:=by
 unfold CY at h;split at h
 ·cases h
 split at h
 ·rename_i y a;have d:=Bz a
  (repeat' (split at h))<;>first | (cases h;done) | skip
  rename_i b _;have:x.super=y.super:=by simpa using b
  rw[this]
  match k,d,a with
  | 0,_,a=>cases a;decide
  | 1,_,a=>cases a;decide
  | 2,_,a=>cases a;decide
  | 3,_,a=>cases a;decide
 rename_i a
 have d:4<=k:=by
  rcases Nat.lt_or_ge k 4 with c | c
  ·have:k<xo1.length:=c;rw[List.getElem?_eq_getElem this] at a;cases a
  exact c
 (repeat' (split at h))<;>first | (cases h;done) | skip
 rename_i b _;simp only[Dj,Bool.not_eq_false,decide_eq_true_eq] at b;omega
abbrev BC:QV:=⟨0,0⟩
def CR (l:List QV)(n:Int):QV:=if n<0 then BC else l[n.toNat]?.getD BC
def EQ (l:List QV)(n:Int)(v:QV):List QV:=if n<0 then l else l.set n.toNat v
def CL (l:List QV)(n:Int):QV:=CR l ((l.length:Int)-1-n)
def Cv (n:Int):List QV:=List.replicate (min (max n 0) 40).toNat BC
def Dq (l:List QV)(n:Int):Nat:=l.length-(max n 0).toNat
def KF (h:List QO)(v:QV):Option QO:=if v.k=4/\0<=v.n then h[v.n.toNat]? else none
def Ch (h:List QO)(v:QV):Int:=if v.k=0 then 1 else if v.k=1\/v.k=2 then 2 else if v.k=3 then 3 else ((KF h v).map QO.cls).getD 0
def Gt (h:List QO)(v:QV)(n:Int):QV:=((KF h v).map λo=>CR o.slots n).getD BC
def FF (h:List QO)(v:QV)(n:Int)(x:QV):List QO:=match KF h v with
 | none=>h
 | some o=>h.set v.n.toNat ⟨o.cls,EQ o.slots n x⟩
def Fv (p:Int)(a b:QV):QV × Int:=
 if a.k≠3\/b.k≠3 then (BC,12)
 else if p=1 then (⟨3,(a.n+b.n).tmod 1073741825⟩,0)
 else if p=2 then (⟨3,(a.n-b.n).tmod 1073741825⟩,0)
 else if p=3 then (⟨3,(a.n*b.n).tmod 1073741825⟩,0)
 else if p=4 then (⟨if a.n<b.n then 2 else 1,0⟩,0)
 else if p=5 then (⟨if a.n=b.n then 2 else 1,0⟩,0)
 else (BC,1)
structure Mc (σ:Type) where
 heap:List QO
 sz_:Int
 tz:Int
 st:σ
structure Fr where
 cls:Int
 meth:QM
 self:QV
 args:List QV
 temps:List QV
 stack:List QV
 code:List QI
 pc:Int
 fast:Bool
structure Env (σ:Type) where
 cz:List QC
 fuel:Int
 look:σ->QS->Int->ByteArray->σ × (Int × Int)
 quick:Int->Int->Option (List QI × Int)
section
variable {σ:Type}
abbrev CC (σ:Type):=Mc σ->Int->Int->QV->List QV->Mc σ × QV × Int
def Fr.push (f:Fr)(v:QV):Fr:={ f with stack:=f.stack++[v] }
def Fr.pop (f:Fr):Fr:={ f with stack:=f.stack.dropLast }
def Fr.top (f:Fr):QV:=CL f.stack 0
def Fr.site (f:Fr)(at':Int)(x:QI):QS:=⟨f.cls,f.meth.name,if f.fast then x.c else at'⟩
def Fr.leave (f:Fr)(at':Int):Fr:={ f with code:=f.meth.code,temps:=(Cv f.meth.temps).zipIdx.map (λp=>(f.temps[p.2]?).getD BC),pc:=at',fast:=false }
def Cl (h:List QO)(f:Fr)(x:QI):Option QV:=
 if x.op=1 then some f.self else if x.op=2 then some (CR f.args x.a) else if x.op=3 then some (CR f.temps x.a) else if x.op=4 then some (Gt h f.self x.a)
 else if x.op=5 then some ⟨3,x.a⟩ else if x.op=6 then some BC else if x.op=7 then some ⟨1,0⟩ else if x.op=8 then some ⟨2,0⟩ else none
def Cr (m:Mc σ)(f:Fr)(at' tg:Int):Mc σ × Fr × Int:=
 let m':Mc σ:=if tg<=at' then { m with tz:=m.tz+1 } else m
 if 300<m'.tz then (m',f,16) else (m',{ f with pc:=tg },0)
def BY (E:Env σ)(d:Nat)(m:Mc σ):Mc σ × Int:=if E.fuel<=m.sz_ then (m,13) else if d=0 then (m,14) else ({ m with sz_:=m.sz_+1 },0)
def Dv (ent:CC σ)(E:Env σ)(m:Mc σ)(f:Fr)(at':Int)(x:QI):Mc σ × Fr × Int:=
 let k:=Dq f.stack x.a
 let args:=f.stack.drop k
 let self:=CL (f.stack.take k) 0
 let l:=E.look m.st (f.site at' x) (Ch m.heap self) x.name
 let r:=ent { m with st:=l.1 } l.2.1 l.2.2 self args
 if r.2.2≠0 then (r.1,f,r.2.2) else (r.1,{ f with stack:=(f.stack.take k).dropLast++[r.2.1] },0)
def DT (E:Env σ)(m:Mc σ)(f:Fr)(c:Int):Mc σ × Fr × Int:=
 if 60<=m.heap.length\/2147483647<DY E.cz c then (m,f,15)
 else ({ m with heap:=m.heap++[⟨c,List.replicate (DY E.cz c).toNat BC⟩] },f.push ⟨4,m.heap.length⟩,0)
def Dt (m:Mc σ)(f:Fr)(at' tg:Int):Mc σ × Fr × Int:=if f.top.k=2 then (m,f.pop,0) else if f.top.k=1 then Cr m f.pop at' tg else (m,f,11)
def DB (E:Env σ)(d:Nat)(m:Mc σ)(f:Fr)(x:QI):Mc σ × Fr × Int:=
 if f.fast=false then (m,f,1)
 else if x.op=18 then (m,if Ch m.heap (CL f.stack x.b)=x.a then f else f.leave x.c,0)
 else if x.op=19 then (m,f.push (Gt m.heap (CR f.temps x.a) x.b),0)
 else if x.op=20 then ({ m with heap:=FF m.heap (CR f.temps x.a) x.b f.top },f.pop,0)
 else if x.op=21 then ((BY E d m).1,f,(BY E d m).2)
 else (m,f,1)
def BD (ent:CC σ)(E:Env σ)(d:Nat)(m:Mc σ)(f:Fr)(at':Int)(x:QI):Mc σ × Fr × Int:=
 match Cl m.heap f x with
 | some v=>(m,f.push v,0)
 | none=>
  if x.op=9 then (m,f.pop,0)
  else if x.op=10 then (m,f.push f.top,0)
  else if x.op=11 then (m,{ f.pop with temps:=EQ f.temps x.a f.top },0)
  else if x.op=12 then ({ m with heap:=FF m.heap f.self x.a f.top },f.pop,0)
  else if x.op=13 then DT E m f x.a
  else if x.op=14 then Dv ent E m f at' x
  else if x.op=15 then Cr m f at' x.a
  else if x.op=16 then Dt m f at' x.a
  else DB E d m f x
def CX (ent:CC σ)(E:Env σ)(d:Nat):Nat->Mc σ->Fr->Mc σ × QV × Int
 | 0,m,_=>(m,BC,9)
 | g+1,m,f=>match (if f.pc<0 then none else f.code[f.pc.toNat]?) with
  | none=>(m,BC,9)
  | some x=>
   if x.op=17 then (m,f.top,0)
   else
    let r:=BD ent E d m { f with pc:=f.pc+1 } f.pc x
    if r.2.2≠0 then (r.1,BC,r.2.2) else CX ent E d g r.1 r.2.1
def Cp (xs:List QC)(c n:Int):Option QM:=(Cy xs c).bind λx=>if 0<=n then x.mz[n.toNat]? else none
def CW (E:Env σ)(c n:Int)(mt:QM)(self:QV)(args:List QV):Fr:=match E.quick c n with
 | none=>⟨c,mt,self,args,Cv mt.temps,[],mt.code,0,false⟩
 | some q=>⟨c,mt,self,args,Cv q.2,[],q.1,0,true⟩
def Hn (f:Fr):Nat:=700*(f.code.length+f.meth.code.length+1)
def El (E:Env σ)(d:Nat)(body:Mc σ->Fr->Mc σ × QV × Int):CC σ:=λm c n self args=>match Cp E.cz c n with
 | none=>(m,BC,10)
 | some mt=>
  if mt.args≠args.length then (m,BC,8)
  else if mt.prim≠0 then (if E.fuel<=m.sz_ then (m,BC,13) else ({ m with sz_:=m.sz_+1 },Fv mt.prim self (CR args 0)))
  else if (BY E d m).2≠0 then (m,BC,(BY E d m).2) else body (BY E d m).1 (CW E c n mt self args)
def BL (E:Env σ):Nat->CC σ
 | 0=>El E 0 λm _=>(m,BC,14)
 | d+1=>El E (d+1) λm f=>CX (BL E d) E d (Hn f) m f
theorem xfw (m:Mc σ)(f:Fr)(a b:Int):(Cr m f a b).1.sz_=m.sz_:=by
 unfold Cr;by_cases h:b<=a
 ·simp only[h,if_true];split<;>rfl
 ·simp only[h,if_false];split<;>rfl
theorem xhQ (E:Env σ)(m:Mc σ)(f:Fr)(c:Int):(DT E m f c).1.sz_=m.sz_:=by
 unfold DT;split<;>rfl
theorem xie (m:Mc σ)(f:Fr)(a b:Int):(Dt m f a b).1.sz_=m.sz_:=by
 unfold Dt;split
 ·rfl
 split
 ·exact xfw _ _ _ _
 rfl
end
def Cf:List QV->List Value
 | []=>[]
 | v :: r=>J v.k :: J v.n :: Cf r
theorem MZ:∀q,(Cf q).length=q.length*2
 | []=>rfl
 | p :: q=>by simp[Cf,MZ q];omega
theorem xdu:∀q r,Cf (q++r)=Cf q++Cf r
 | [],r=>rfl
 | p :: q,r=>by simp[Cf,xdu q r]
theorem xeg:∀ {q:List QV} {i:Nat} {x:QV},q[i]?=some x->(Cf q)[i*2]?=some (J x.k)/\(Cf q)[i*2+1]?=some (J x.n)
 | [],i,x,h=>by simp at h
 | p :: q,0,x,h=>by simp at h;subst h;exact⟨rfl,rfl⟩
 | p :: q,i+1,x,h=>by
  have:=xeg (q:=q) (i:=i) (x:=x) (by simpa using h);rw[show (i+1)*2=i*2+1+1 by omega];exact this
theorem xh7:∀(q:List QV) (i:Nat) (x:QV),((Cf q).set (i*2) (J x.k)).set (i*2+1) (J x.n)=Cf (q.set i x)
 | [],i,x=>by simp[Cf]
 | p :: q,0,x=>by simp[Cf]
 | p :: q,i+1,x=>by
  rw[show (i+1)*2=i*2+1+1 by omega];simp only[Cf,List.set_cons_succ];rw[xh7 q i x]
theorem xez:∀(q:List QV) (n:Nat),(Cf q).take (n*2)=Cf (q.take n)
 | [],n=>by simp[Cf]
 | p :: q,0=>by simp[Cf]
 | p :: q,n+1=>by
  rw[show (n+1)*2=n*2+1+1 by omega];simp only[Cf,List.take_succ_cons];rw[xez q n]
theorem xgx:∀(q:List QV) (n:Nat),(Cf q).drop (n*2)=Cf (q.drop n)
 | [],n=>by simp[Cf]
 | p :: q,0=>by simp[Cf]
 | p :: q,n+1=>by
  rw[show (n+1)*2=n*2+1+1 by omega];simp only[Cf,List.drop_succ_cons];exact xgx q n
theorem xif:∀n,Cf (List.replicate n BC)=List.replicate (n*2) (J 0)
 | 0=>rfl
 | n+1=>by
  rw[show (n+1)*2=n*2+1+1 by omega];simp only[List.replicate_succ,Cf];rw[xif n]
theorem xhE:∀(q:List QV),∀u∈Cf q,u.oneCell'=true
 | [],u,h=>by simp[Cf] at h
 | p :: q,u,h=>by
  simp only[Cf,List.mem_cons] at h;rcases h with rfl | rfl | h
  ·rfl
  ·rfl
  exact xhE q u h
theorem xff {E:Unit}:∀ {cs:List Value} {xs:List QV} {P:Nat->Prop} {w:qW},Cells KY 2 P w cs xs->cs=Cf xs:=fun {cs xs P w} h=>by
 obtain⟨e,c⟩:=h
 apply List.ext_getElem?
 intro j;by_cases hj:j<xs.length*2
 ·have d:j / 2<xs.length:=by omega
  have a:xs[j / 2]?=some xs[j / 2]:=by simp[d]
  obtain⟨e1,e2⟩:=c _ _ a;obtain⟨d1,d2⟩:=xeg a;rcases Nat.mod_two_eq_zero_or_one j with b | b
  ·have:j=j / 2*2:=by omega
   rw[this,d1];simpa using e1
  have:j=j / 2*2+1:=by omega
  rw[this,d2];simpa using e2
 rw[List.getElem?_eq_none (by omega),List.getElem?_eq_none (by rw[MZ];omega)]
structure Kp (S:Nat->Prop)(T:Nat->Nat)(w w':qW):Prop where
 os:w'.os=w.os
 tape:w'.tape=w.tape
 output:w'.output=w.output
 size:w.heap.size<=w'.heap.size
 blk:∀b,b<w.heap.size->¬ S (T b)->w'.heap[b]?=w.heap[b]?
def Ext (T T':Nat->Nat)(w:qW):Prop:=∀b,b<w.heap.size->T' b=T b
theorem Ext.refl (T:Nat->Nat)(w:qW):Ext T T w:=λ_ _=>rfl
theorem Ext.trans {T T' a:Nat->Nat}{w w':qW}(h:Ext T T' w)(d:w.heap.size<=w'.heap.size)(k:Ext T' a w'):Ext T a w:=λb c=>(k b (by omega)).trans (h b c)
theorem Kp.refl (S:Nat->Prop)(T:Nat->Nat)(w:qW):Kp S T w w:=⟨rfl,rfl,rfl,Bq _,λ_ _ _=>rfl⟩
theorem Kp.of_below {S:Nat->Prop}{T:Nat->Nat}{w w':qW}(h:qY w w'):Kp S T w w':=⟨h.os,h.tape,h.output,h.size,λb a _=>h.block b a⟩
theorem Kp.trans {S:Nat->Prop}{T T':Nat->Nat}{w w' w'':qW}(h:Kp S T w w')(e:Ext T T' w)(k:Kp S T' w' w''):Kp S T w w'':=
 ⟨k.os.trans h.os,k.tape.trans h.tape,k.output.trans h.output,BX h.size k.size,λb a c=>(k.blk b (Cd a h.size) (by rw[e b a];exact c)).trans (h.blk b a c)⟩
theorem Kp.on {S:Nat->Prop}{T:Nat->Nat}{w w' w'':qW}(h:Kp S T w w')(k:qY w' w''):Kp S T w w'':=h.trans (.refl _ _) (.of_below k)
theorem Kp.drew {S:Nat->Prop}{T:Nat->Nat}{w w':qW}(h:Kp S T w w'):Kp S T w w'.drew:=⟨h.os,h.tape,h.output,h.size,h.blk⟩
theorem Kp.mono {S S':Nat->Prop}{T:Nat->Nat}{w w':qW}(h:Kp S T w w')(a:∀t,S t->S' t):Kp S' T w w':=⟨h.os,h.tape,h.output,h.size,λb c n=>h.blk b c λk=>n (a _ k)⟩
theorem Kp.tags {S:Nat->Prop}{T T':Nat->Nat}{w w':qW}(h:Kp S T w w')(e:Ext T T' w):Kp S T' w w':=⟨h.os,h.tape,h.output,h.size,λb a n=>h.blk b a (by rw[← e b a];exact n)⟩
theorem Kp.below {S:Nat->Prop}{T:Nat->Nat}{w w':qW}(h:Kp S T w w'){lo:Nat}(a:∀b,b<lo->¬ S (T b))(d:lo<=w.heap.size):Below lo w w':=⟨h.os,h.tape,h.output,h.size,λb c=>h.blk b (by omega) (a b c)⟩
theorem Kp.set {S:Nat->Prop}{T:Nat->Nat}{w w':qW}(h:Kp S T w w'){b:Nat}(f:b<w.heap.size->S (T b))(o:Nat)(v:Value):Kp S T w (w'.setCell (O b o) v):=by
 have k:=Br w'.heap.size w';have a:Below 0 w' (w'.setCell (O b o) v):=(Br 0 w').setCell (Nat.zero_le _) _;refine⟨a.os.trans h.os,a.tape.trans h.tape,a.output.trans h.output,BX h.size a.size,λc d n=>?_⟩;rw[BS (λe=>n (by rw[e];exact f (by omega)))];exact h.blk c d n
theorem Kp.held {S:Nat->Prop}{T:Nat->Nat}{w w':qW}(h:Kp S T w w'){b:Nat}{o:Obj}(a:w.heap[b]?=some o)(c:¬ S (T b)):w'.heap[b]?=some o:=by
 rw[h.blk b (By a) c];exact a
theorem Kp.cell {S:Nat->Prop}{T:Nat->Nat}{w w':qW}(h:Kp S T w w'){b o:Nat}{v:Value}(a:w.cell? (O b o)=some v)(c:¬ S (T b)):w'.cell? (O b o)=some v:=by
 have d:=World.block_lt_of_cell? w (O b o) a;unfold World.cell? at a ⊢;rw[h.blk b d c];exact a
abbrev Fx (T:Nat->Nat)(w:qW):Nat->Prop:=λb=>b<w.heap.size/\T b=0
abbrev Hx (T:Nat->Nat)(w:qW):Nat->Prop:=λb=>b<w.heap.size/\T b=2
theorem IsRow.fx {α:Type}{E:CT α}{sz bytes:Nat}{t:Nat}{T T':Nat->Nat}{S:Nat->Prop}{w w':qW}{v:Value}{xs:List α}(h:IsRow E sz bytes (λb=>b<w.heap.size/\T b=t) w v xs)(G:Good E sz)(e:Ext T T' w)(k:Kp S T w w')(c:¬ S t):IsRow E sz bytes (λb=>b<w'.heap.size/\T' b=t) w' v xs:=
 h.keep G (Keeps.of_block λb a d=>k.blk b d (by rw[a.2];exact c)) λb a=>⟨Cd a.1 k.size,by rw[e b a.1];exact a.2⟩
def Dw (T:Nat->Nat)(w:qW)(t:Nat):Nat->Nat:=λb=>if b<w.heap.size then T b else t
theorem EW (T:Nat->Nat)(w:qW)(t:Nat):Ext T (Dw T w t) w:=λb a=>by simp[Dw,a]
theorem Gr {T:Nat->Nat}{w:qW}{t b:Nat}(h:w.heap.size<=b):Dw T w t b=t:=by simp[Dw];omega
def GV (T:Nat->Nat)(g t:Nat):Nat->Nat:=λb=>if b=g then t else T b
theorem xgj {T:Nat->Nat}{w:qW}{g t:Nat}(h:w.heap.size<=g):Ext T (GV T g t) w:=λb a=>by simp[GV];omega
theorem xfg (T:Nat->Nat)(g t:Nat):GV T g t g=t:=by simp[GV]
structure HeapSt (T:Nat->Nat)(w:qW)(hv:Value)(g:Nat)(s:Nat->Nat)(xs:List QO):Prop where
 form:∃cap,hv=qG g xs.length cap/\xs.length<=cap/\cap<=maxLen
 len:xs.length*32<=140737488351232
 there:g<w.heap.size
 tg:T g=2
 obj:∀i x,xs[i]?=some x->w.cell? (O g (i*2))=some (J x.cls)/\w.cell? (O g (i*2+1))=some (qS (some (O (s i) 0)) x.slots.length x.slots.length)/\w.heap[s i]?=some (.cells (Cf x.slots).toArray 41 (0,0))/\T (s i)=2/\s i≠g/\x.slots.length*16<=140737488351232
 inj:∀i j,i<xs.length->j<xs.length->s i=s j->i=j
theorem xlQ {w:qW}{g:Nat}{vs:List QV}{t:TypeId}(h:w.heap[g]?=some (.cells (Cf vs).toArray t (0,0))){i:Nat}{x:QV}(a:vs[i]?=some x):w.cell? (O g (i*2))=some (J x.k)/\w.cell? (O g (i*2+1))=some (J x.n):=by
 rw[Bn h,Bn h];have:=xeg a;simpa using this
theorem xlU {w:qW}{g:Nat}{vs:List QV}{t:TypeId}{P:Nat->Prop}(h:w.heap[g]?=some (.cells (Cf vs).toArray t (0,0)))(a:P g)(c:vs.length*16<=140737488351232):CG P w (qG g vs.length vs.length) vs:=by
 refine⟨_,_,rfl,Bq _,by unfold maxLen;omega,c,λi x b=>⟨g,0,rfl,a,?_⟩⟩;have:=xlQ h b;simp only[Nat.zero_add];exact⟨by simpa using this.1,this.2⟩
theorem HeapSt.heap {T:Nat->Nat}{w:qW}{hv:Value}{g:Nat}{s:Nat->Nat}{xs:List QO}(h:HeapSt T w hv g s xs):BP (Hx T w) w hv xs:=by
 obtain⟨cap,rfl,a,b⟩:=h.form;refine⟨_,_,rfl,a,b,h.len,λi x c=>⟨g,0,rfl,⟨h.there,h.tg⟩,?_⟩⟩;obtain⟨e1,e2,e3,e4,e5,e6⟩:=h.obj i x c;simp only[Nat.zero_add];exact⟨by simpa using e1,_,e2,xlU e3 ⟨By e3,e4⟩ e6⟩
theorem HeapSt.keep {T T':Nat->Nat}{S:Nat->Prop}{w w':qW}{hv:Value}{g:Nat}{s:Nat->Nat}{xs:List QO}(h:HeapSt T w hv g s xs)(e:Ext T T' w)(k:Kp S T w w')(a:¬ S 2):HeapSt T' w' hv g s xs:=by
 refine⟨h.form,h.len,Cd h.there k.size,by rw[e g h.there];exact h.tg,λi x b=>?_,h.inj⟩;obtain⟨e1,e2,e3,e4,e5,e6⟩:=h.obj i x b;exact⟨k.cell e1 (by rw[h.tg];exact a),k.cell e2 (by rw[h.tg];exact a),k.held e3 (by rw[e4];exact a),by rw[e _ (By e3)];exact e4,e5,e6⟩
theorem xpO {w:qW}{g:Nat}{vs:List QV}{t:TypeId}(h:w.heap[g]?=some (.cells (Cf vs).toArray t (0,0)))(j:Nat)(v:QV):((w.setCell (O g (j*2)) (J v.k)).setCell (O g (j*2+1)) (J v.n)).heap[g]?=some (.cells (Cf (vs.set j v)).toArray t (0,0)):=by
 rw[BW (BW h _),← xh7];simp
abbrev VV (v:QV):Value:=.agg #[J v.k,J v.n]
theorem NB {P:Nat->Prop}(l:List QV)(lv:Value)(n:Int)(w:qW)(h:CG P w lv l):Calls Tryz.prog 255 #[lv,J n] w λe w'=>e=.returned (VV (CR l n))/\qY w w':=by
 obtain⟨ad,cap,rfl,r,c,d,a⟩:=h;unfold maxLen at c;by_cases hn:n<0
 ·have f:Hid (CR l n=BC):=by show _=_;unfold CR;rw[if_pos hn]
  have g:decide (n<0)=true:=by simpa using hn
  go_enter Tryz.func255,Tryz.ntmps255;go_wp2;refine Bt (v:=VV BC) ?_ rfl ⟨by rw[f.out],Bg _ _⟩;simp[results,Tryz.results255,go_sem]
 have g:decide (n<0)=false:=by simpa using hn
 obtain⟨k,rfl⟩:∃k:Nat,n=k:=⟨n.toNat,by omega⟩
 by_cases hk:k<l.length
 ·have q:l[k]?=some l[k]:=by simp[hk]
  have f:Hid (CR l k=l[k]):=by show _=_;unfold CR;rw[if_neg hn];simp[hk]
  generalize l[k]=x at *;obtain⟨b,o,rfl,-,j,m⟩:=a k x q;simp only[Nat.add_zero] at j;have c0:=Bf (Bg w (qQ)) j;have c1:=Bf (Bg w (qQ)) m;have p:(k:Int)<(l.length:Int):=by omega
  have i:¬ ((l.length:Int)<=(k:Int)):=by omega
  go_enter Tryz.func255,Tryz.ntmps255;go_wp2;refine Bt (v:=VV x) ?_ rfl ⟨by rw[f.out],Bg _ _⟩;simp[results,Tryz.results255,go_sem]
 have f:Hid (CR l k=BC):=by show _=_;unfold CR;rw[if_neg hn];simp[hk]
 have i:((l.length:Int)<=(k:Int)):=by omega
 go_enter Tryz.func255,Tryz.ntmps255;go_wp2;refine Bt (v:=VV BC) ?_ rfl ⟨by rw[f.out],Bg _ _⟩;simp[results,Tryz.results255,go_sem]
theorem xpB (n:Nat):madeCells #[J 0,J 0] (n*2)=(Cf (List.replicate n BC)).toArray:=by
 rw[xif];unfold madeCells
 apply Array.ext
 ·simp
 intro i a b;simp;rcases Nat.mod_two_eq_zero_or_one i with h | h<;>simp[h]
theorem xhm (n:Int)(w:qW):Calls Tryz.prog 256 #[J n] w λe w'=>∃g,e=.returned (qG g (Cv n).length (Cv n).length)/\w'.heap[g]?=some (.cells (Cf (Cv n)).toArray 41 (0,0))/\w.heap.size<=g/\qY w w':=by
 by_cases hn:n<0
 ·have b:Hid (Cv n=List.replicate 0 BC):=by show _=_;unfold Cv;congr 1;omega
  have a:∀w:qW,(Instr.makeSlice 52 (J 0) (J 0)).run Tryz.prog w=.ok (qG w.heap.size 0 0) (w.alloc (.cells (madeCells #[J 0,J 0] (0*2)) 41)):=Ns 0 (by omega);have d:decide (n<0)=true:=by simpa using hn
  go_enter Tryz.func256,Tryz.ntmps256;go_wp2;go_ret;rw[b.out,List.length_replicate];exact⟨_,rfl,by rw[← xpB];exact BH _ _,Bq _,Bg _ _⟩
 obtain⟨m,rfl⟩:∃m:Nat,n=(m:Int):=⟨n.toNat,by omega⟩
 by_cases hm4:m<=40
 ·have b:Hid (Cv m=List.replicate m BC):=by show _=_;unfold Cv;congr 1;omega
  have a:=Ns m (by omega);have c:(m:Int)<=40:=by omega
  have f:¬ (40<(m:Int)):=by omega
  go_enter Tryz.func256,Tryz.ntmps256;go_wp2;go_ret;rw[b.out,List.length_replicate];exact⟨_,rfl,by rw[← xpB];exact BH _ _,Bq _,Bg _ _⟩
 have b:Hid (Cv m=List.replicate 40 BC):=by show _=_;unfold Cv;congr 1;omega
 have a:∀w:qW,(Instr.makeSlice 52 (J 40) (J 40)).run Tryz.prog w=.ok (qG w.heap.size 40 40) (w.alloc (.cells (madeCells #[J 0,J 0] (40*2)) 41)):=Ns 40 (by omega);have c:40<(m:Int):=by omega
 go_enter Tryz.func256,Tryz.ntmps256;go_wp2;go_ret;rw[b.out,List.length_replicate];exact⟨_,rfl,by rw[← xpB];exact BH _ _,Bq _,Bg _ _⟩
theorem xf1 (l:List QV)(g:Nat)(n:Int)(v:QV)(w:qW)(h:w.heap[g]?=some (.cells (Cf l).toArray 41 (0,0))):Calls Tryz.prog 273 #[qG g l.length l.length,J n,VV v] w λe w'=>e=.returned (.tuple #[])/\w'.heap[g]?=some (.cells (Cf (EQ l n v)).toArray 41 (0,0))/\w.heap.size<w'.heap.size/\∀(S:Nat->Prop) (T:Nat->Nat),S (T g)->Kp S T w w':=by
 have q:=By h;have j:=Bg w (qH v);have b:=Bs h j;by_cases hn:n<0
 ·have d:Hid (EQ l n v=l):=by show _=_;unfold EQ;rw[if_pos hn]
  have f:decide (0<=n)=false:=by simpa using hn
  go_enter Tryz.func273,Tryz.ntmps273;go_wp2;refine bodyPost_end (v:=.tuple #[]) (by simp[results,Tryz.results273,go_sem]) rfl ⟨rfl,by rw[d.out];exact b,by simp,λS T a=>Kp.of_below (Bg _ _)⟩
 obtain⟨k,rfl⟩:∃k:Nat,n=k:=⟨n.toNat,by omega⟩
 have d:Hid (EQ l k v=l.set k v):=by show _=_;unfold EQ;rw[if_neg hn];simp
 have f:decide (0<=(k:Int))=true:=by simp
 by_cases hk:k<l.length
 ·have i:(k:Int)<(l.length:Int):=by omega
  obtain⟨c0,c1⟩:=xlQ b (show l[k]?=some l[k] by simp[hk]);have f0:∀o,(w.alloc (qH v)).frozen? (O g o)=false:=λo=>by unfold World.frozen?;simp only[b];simp
  have c:=xpO b k v;have b0:=(Bp w #[J v.k,J v.n] 41 _ rfl 0);have b1:=(Bp w #[J v.k,J v.n] 41 _ rfl 1);have s:Hid (∀(S:Nat->Prop) (T:Nat->Nat),Kp S T w (w.alloc (qH v))):=λS T=>Kp.of_below (Bg _ _);have p:w.heap.size<(w.alloc (qH v)).heap.size:=by simp
  have r:¬ w.heap.size=g:=by omega
  have m:¬ g=w.heap.size:=by omega
  go_enter Tryz.func273,Tryz.ntmps273;go_upto_region 1 with (fail);generalize (w.alloc (qH v))=W at *;simp at b0 b1;go_wp2;refine bodyPost_end (v:=.tuple #[]) (by simp[results,Tryz.results273,go_sem]) rfl ⟨rfl,by rw[d.out];exact c,by simpa using p,λS T a=>((s.out S T).set (λ_=>a) _ _).set (λ_=>a) _ _⟩
 have i:((l.length:Int)<=(k:Int)):=by omega
 have a:l.set k v=l:=List.set_eq_of_length_le (by omega);go_enter Tryz.func273,Tryz.ntmps273;go_wp2;refine bodyPost_end (v:=.tuple #[]) (by simp[results,Tryz.results273,go_sem]) rfl ⟨rfl,by rw[d.out,a];exact b,by simp,λS T a=>Kp.of_below (Bg _ _)⟩
end Go.Proofs.YtbafokihegegiaaGreatDoor
