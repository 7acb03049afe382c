/- A part. -/
import Derived.Test.YtdfbgpiikeheiaaQ0
import Derived.Deep.SlicePairs
import Derived.SizedLaws
import Derived.ChangeOld
import Derived.Lib.SmallJoins
import Derived.ArgAppend
namespace Go.Proofs.Ytdfbgpiikeheiaa
open Go.ChangeShapes Go.WideShapes Go.ChangeAt Go.RowKit
set_option linter.unusedSimpArgs false
set_option linter.unusedVariables false
set_option maxHeartbeats 8000000
set_option maxRecDepth 8000
theorem xp7:Try.prog.bytesOf 59=48:=by kernel_rfl
theorem xsD:Try.prog.bytesOf 55=64:=by kernel_rfl
theorem xsq:Try.prog.bytesOf 52=56:=by kernel_rfl
theorem xpC:Try.prog.bytesOf 27=16:=by kernel_rfl
theorem xsE:Try.prog.bytesOf 82=32:=by kernel_rfl
theorem xpP:Try.prog.cellsOf 59=5:=by kernel_rfl
theorem xsB:Try.prog.cellsOf 55=5:=by kernel_rfl
theorem xsy:Try.prog.cellsOf 52=4:=by kernel_rfl
theorem xmk:Try.prog.cellsOf 27=2:=by kernel_rfl
theorem xsA:Try.prog.cellsOf 82=2:=by kernel_rfl
theorem xgG:Try.prog.cellsOf 3=1:=by kernel_rfl
theorem xh7:Try.prog.cellsOf 9=1:=by kernel_rfl
theorem xst:Try.prog.cellsOf 53=1:=by kernel_rfl
theorem xsx:Try.prog.cellsOf 50=1:=by kernel_rfl
theorem xmJ:Try.prog.cellsOf 28=1:=by kernel_rfl
theorem xps:Try.prog.cellsOf 25=3:=by kernel_rfl
theorem xqu:laidOutB Try.prog=true:=by kernel_rfl
theorem own:ownKnob Try.prog.godebug=none:=by kernel_rfl
abbrev Tru:Nat->Prop:=fun _=>True
theorem xkl {H:Type}{P:Program}{e:TypeId}:∀ {l:List (DataW H)} {d:DataW H},d∈l->∀ n∈d.weights P e,n∈DataW.weightsAll P e l
 | d' :: r,d,hd,n,hn=>by
  simp only[DataW.weightsAll,List.mem_append]
  rcases List.mem_cons.1 hd with rfl | h
  ·exact Or.inl hn
  ·exact Or.inr (xkl h n hn)
theorem xo7 {w:World}{a:Addr}{v:Value}(h:w.cell? (a.add 0)=some v):∃ b o,a=⟨b,o,none⟩:=by
 have hs:=World.cell?_spot h;obtain⟨b,o,spot⟩:=a;refine⟨b,o,?_⟩;have:spot=none:=by simpa [Addr.add] using hs
 rw[this]
theorem xf8 {α:Type}{p:Nat->α->Prop}:∀ n:Nat,(∀ i,i<n->∃ y,p i y)->∃ xs:List α,xs.length=n/\∀ (i:Nat) x,xs[i]?=some x->p i x
 | 0,_=>⟨[],rfl,fun i x hx=>by simp at hx⟩
 | n+1,h=>by
  obtain⟨xs,h1,h2⟩:=xf8 n fun i hi=>h i (by omega)
  obtain⟨y,hy⟩:=h n (by omega)
  refine⟨xs++[y],by simp[h1],fun i x hx=>?_⟩
  by_cases hi:i<xs.length
  ·rw[List.getElem?_append_left hi] at hx
   exact h2 i x hx
  ·have:=xae hx
   simp at this
   obtain rfl:i=xs.length:=by omega
   simp at hx
   subst hx;rw[h1]
   exact hy
section
variable {H:Type} {enc:TypeId × Value->H} {w:World} {base:Nat} {spare:Nat->Bool} {held:Bool}
theorem xdm {α:Type}{E:Lay α}{sz bytes:Nat}(G:Good E sz){T e:TypeId}(ht:Try.prog.underlying T=some (.slice e))(hc:Try.prog.cellsOf e=sz)(hb:Try.prog.bytesOf e=bytes)(hp:0<bytes)
  (hel:∀ (n:Nat) (cs:List Value) (x:DataW H × List MemPlace),cs.length=sz->DataW.trod enc Try.prog w base spare held n e cs=some x->(∀ n∈x.1.weights Try.prog e,n<=140737488351232)->∃ y,E Tru w (fun k=>cs[k]?) y)
  {fuel:Nat} {v:Value} {x:DataW H × List MemPlace} (h:DataW.trod enc Try.prog w base spare held fuel T [v]=some x) (hw:∀ n∈x.1.weights Try.prog T,n<=140737488351232):∃ xs,IsRow E sz bytes Tru w v xs:=by
 have hsz:=G.pos
 rcases Go.Deep.open_slice ht h with ⟨hcs,-⟩ | ⟨a,len,cap,m,n,D,Pl,hcs,-,hl,hm,hmm,rfl,hx⟩
 ·simp only[List.cons.injEq,and_true] at hcs;subst hcs
  exact⟨[],none,0,rfl,qzC _,by unfold maxLen;omega,by simp,fun i x hx=>by simp at hx⟩
 ·simp only[List.cons.injEq,and_true] at hcs;subst hcs;have hlm:len<=m:=by rw[hmm];split<;>omega
  have hbd:len*bytes<=140737488351232:=by
   have:=hw ((((List.range len).map D).length+((List.range (m-len)).map fun j=>D (len+j)).length)*Try.prog.bytesOf e) (by simp[DataW.weights,ht])
   rw[hb] at this
   simp at this
   rw[show len+(m-len)=m by omega] at this
   exact qzD (Nat.mul_le_mul_right _ hlm) this
  have hsl:∀ i,i<len->∃ y,∃ b o,a=⟨b,o,none⟩/\E Tru w (fun k=>w.cell? ⟨b,o+i*sz+k,none⟩) y:=fun i hi=>by
   obtain⟨cs,h1,h2⟩:=hx i (by omega)
   rw[hc] at h1;obtain⟨_,hlen,hcell⟩:=World.cells?_some h1
   obtain⟨y,hy⟩:=hel n cs _ hlen h2 (fun q hq=>hw q (by
    simp only[DataW.weights,ht,List.mem_cons,List.mem_append]
    exact Or.inr (Or.inl (xkl (d:=D i) (by simp;exact⟨i,hi,rfl⟩) q hq))))
   obtain⟨b,o,rfl⟩:∃ b o,a=⟨b,o,none⟩:=by
    obtain⟨cs0,k1,-⟩:=hx 0 (by omega)
    rw[hc] at k1;obtain⟨_,hlen0,hcell0⟩:=World.cells?_some k1;have h0:=hcell0 0 (by omega)
    rw[Go.Deep.add_add,Nat.zero_mul,Nat.add_zero,List.getElem?_eq_getElem (by omega)] at h0
    exact xo7 h0
   refine⟨y,b,o,rfl,G.move hy (fun _ h=>h) (.refl _ _) fun k hk u hu=>?_⟩
   have h0:=hcell k (by omega)
   rw[Go.Deep.add_add,Addr.add_lit,← Nat.add_assoc] at h0;rw[h0]
   exact hu
  obtain⟨xs,h1,h2⟩:=xf8 len hsl;refine⟨xs,some a,cap,by rw[h1],by rw[h1];exact hl,hm,by rw[h1];exact hbd,fun i x hx=>?_⟩
  obtain⟨b,o,rfl,hE⟩:=h2 i x hx
  exact⟨b,o,rfl,trivial,hE⟩
theorem xbC {fs:Array Field}{e:TypeId}(he:Try.prog.underlying e=some (.struct fs)){xs:List (DataW H × List MemPlace)}{j:Nat}{f:Field}{y:DataW H × List MemPlace}(hf:fs[j]?=some f)(hy:xs[j]?=some y):∀ n∈y.1.weights Try.prog f.type,n∈(DataW.agg (xs.map (·.1))).weights Try.prog e:=by
 intro n hn;simp only[DataW.weights,he];refine DataW.weights_mem_each (j:=j) (t:=f.type) (d:=y.1) ?_ ?_ n hn
 ·rw[List.getElem?_map]
  simp[hf]
 ·rw[List.getElem?_map,hy]
  rfl
theorem xj8 {n:Nat}{cs:List Value}{x:DataW H × List MemPlace}(hl:cs.length=2)(h:DataW.trod enc Try.prog w base spare held n 27 cs=some x):∃ y,xpo Tru w (fun k=>cs[k]?) y:=by
 obtain⟨xs,k,hk,hxy,_,hxl,hf⟩:=DataW.trod_struct Try.underlying27 h
 match xs,hxl,cs,hl with
 | [y0,y1],_,[v0,v1],_=>
  have g0:=hf 0 _ rfl;have g1:=hf 1 _ rfl
  simp[xgG] at g0 g1
  obtain⟨a,e0,-,-⟩:=DataW.trod_int Try.underlying3 g0;obtain⟨b,e1,-,-⟩:=DataW.trod_int Try.underlying3 g1
  simp at e0 e1
  subst e0 e1
  exact⟨⟨a,b⟩,rfl,rfl⟩
theorem xlh {n:Nat}{cs:List Value}{x:DataW H × List MemPlace}(hl:cs.length=5)(h:DataW.trod enc Try.prog w base spare held n 59 cs=some x)(hw:∀ n∈x.1.weights Try.prog 59,n<=140737488351232):∃ y,xeu Tru w (fun k=>cs[k]?) y:=by
 obtain⟨xs,k,hk,hxy,_,hxl,hf⟩:=DataW.trod_struct Try.underlying59 h
 match xs,hxl,cs,hl with
 | [y0,y1,y2,y3,y4],_,[v0,v1,v2,v3,v4],_=>
  have g0:=hf 0 _ rfl;have g1:=hf 1 _ rfl;have g2:=hf 2 _ rfl;have g3:=hf 3 _ rfl;have g4:=hf 4 _ rfl
  simp[xgG,xh7] at g0 g1 g2 g3 g4
  obtain⟨a,e0,-,-⟩:=DataW.trod_int Try.underlying3 g0;obtain⟨b,e1,-,-⟩:=DataW.trod_int Try.underlying3 g1;obtain⟨c,e2,-,-⟩:=DataW.trod_int Try.underlying3 g2;obtain⟨d,e3,-,-⟩:=DataW.trod_int Try.underlying3 g3;obtain⟨s,e4,e5,-⟩:=DataW.trod_string Try.underlying9 g4
  simp at e0 e1 e2 e3 e4
  subst e0 e1 e2 e3 e4
  have hs:s.size<=140737488351232:=by
   rw[hxy] at hw;have:=hw s.data.toList.length (xbC (j:=4) (xs:=[y0,y1,y2,y3,y4]) Try.underlying59 rfl rfl _ (by rw[e5];simp[DataW.weights]))
   simpa using this
  exact⟨⟨a,b,c,d,s⟩,rfl,rfl,rfl,rfl,rfl,hs⟩
theorem xnI {fuel:Nat}{v:Value}{x:DataW H × List MemPlace}(h:DataW.trod enc Try.prog w base spare held fuel 53 [v]=some x)(hw:∀ n∈x.1.weights Try.prog 53,n<=140737488351232):∃ xs,xaR Tru w v xs:=
 xdm xa2 Try.underlying53 xpP xp7 (by omega) (fun n cs x hl h hw=>xlh hl h hw) h hw
theorem xiZ {fuel:Nat}{v:Value}{x:DataW H × List MemPlace}(h:DataW.trod enc Try.prog w base spare held fuel 28 [v]=some x)(hw:∀ n∈x.1.weights Try.prog 28,n<=140737488351232):∃ xs,xaO Tru w v xs:=
 xdm xa1 Try.underlying28 xmk xpC (by omega) (fun n cs x hl h hw=>xj8 hl h) h hw
theorem xmI {n:Nat}{cs:List Value}{x:DataW H × List MemPlace}(hl:cs.length=5)(h:DataW.trod enc Try.prog w base spare held n 55 cs=some x)(hw:∀ n∈x.1.weights Try.prog 55,n<=140737488351232):∃ y,xfx Tru w (fun k=>cs[k]?) y:=by
 obtain⟨xs,k,hk,hxy,_,hxl,hf⟩:=DataW.trod_struct Try.underlying55 h
 match xs,hxl,cs,hl with
 | [y0,y1,y2,y3,y4],_,[v0,v1,v2,v3,v4],_=>
  have g0:=hf 0 _ rfl;have g1:=hf 1 _ rfl;have g2:=hf 2 _ rfl;have g3:=hf 3 _ rfl;have g4:=hf 4 _ rfl
  simp[xgG,xh7,xst] at g0 g1 g2 g3 g4
  rw[hxy] at hw;obtain⟨s,e0,e5,-⟩:=DataW.trod_string Try.underlying9 g0;obtain⟨b,e1,-,-⟩:=DataW.trod_int Try.underlying3 g1;obtain⟨c,e2,-,-⟩:=DataW.trod_int Try.underlying3 g2;obtain⟨d,e3,-,-⟩:=DataW.trod_int Try.underlying3 g3;obtain⟨l,hc⟩:=xnI g4 (fun q hq=>hw q (xbC (j:=4) (xs:=[y0,y1,y2,y3,y4]) Try.underlying55 rfl rfl q hq))
  simp at e0 e1 e2 e3
  subst e0 e1 e2 e3
  have hs:s.size<=140737488351232:=by
   have:=hw s.data.toList.length (xbC (j:=0) (xs:=[y0,y1,y2,y3,y4]) Try.underlying55 rfl rfl _ (by rw[e5];simp[DataW.weights]))
   simpa using this
  exact⟨⟨s,b,c,d,l⟩,rfl,rfl,rfl,rfl,hs,_,rfl,hc⟩
theorem xlG {fuel:Nat}{v:Value}{x:DataW H × List MemPlace}(h:DataW.trod enc Try.prog w base spare held fuel 50 [v]=some x)(hw:∀ n∈x.1.weights Try.prog 50,n<=140737488351232):∃ xs,xbm Tru w v xs:=
 xdm xbq Try.underlying50 xsB xsD (by omega) (fun n cs x hl h hw=>xmI hl h hw) h hw
theorem xow {n:Nat}{cs:List Value}{x:DataW H × List MemPlace}(hl:cs.length=2)(h:DataW.trod enc Try.prog w base spare held n 82 cs=some x)(hw:∀ n∈x.1.weights Try.prog 82,n<=140737488351232):∃ y,xnN Tru w (fun k=>cs[k]?) y:=by
 obtain⟨xs,k,hk,hxy,_,hxl,hf⟩:=DataW.trod_struct Try.underlying82 h
 match xs,hxl,cs,hl with
 | [y0,y1],_,[v0,v1],_=>
  have g0:=hf 0 _ rfl;have g1:=hf 1 _ rfl
  simp[xgG,xmJ] at g0 g1
  rw[hxy] at hw;obtain⟨a,e0,-,-⟩:=DataW.trod_int Try.underlying3 g0;obtain⟨l,hc⟩:=xiZ g1 (fun q hq=>hw q (xbC (j:=1) (xs:=[y0,y1]) Try.underlying82 rfl rfl q hq))
  simp at e0
  subst e0
  exact⟨⟨a,l⟩,rfl,_,rfl,hc⟩
theorem xma {fuel:Nat}{v:Value}{x:DataW H × List MemPlace}(h:DataW.trod enc Try.prog w base spare held fuel 23 [v]=some x)(hw:∀ n∈x.1.weights Try.prog 23,n<=140737488351232):∃ xs,xaD Tru w v xs:=
 xdm xaE Try.underlying23 xsA xsE (by omega) (fun n cs x hl h hw=>xow hl h hw) h hw
theorem xlf {n:Nat}{cs:List Value}{x:DataW H × List MemPlace}(hl:cs.length=4)(h:DataW.trod enc Try.prog w base spare held n 52 cs=some x)(hw:∀ n∈x.1.weights Try.prog 52,n<=140737488351232):∃ y,xeC Tru w (fun k=>cs[k]?) y:=by
 obtain⟨xs,k,hk,hxy,_,hxl,hf⟩:=DataW.trod_struct Try.underlying52 h
 match xs,hxl,cs,hl with
 | [y0,y1,y2,y3],_,[v0,v1,v2,v3],_=>
  have g0:=hf 0 _ rfl;have g1:=hf 1 _ rfl;have g2:=hf 2 _ rfl;have g3:=hf 3 _ rfl
  simp[xgG,xh7,xsx] at g0 g1 g2 g3
  rw[hxy] at hw;obtain⟨s,e0,e5,-⟩:=DataW.trod_string Try.underlying9 g0;obtain⟨b,e1,-,-⟩:=DataW.trod_int Try.underlying3 g1;obtain⟨c,e2,-,-⟩:=DataW.trod_int Try.underlying3 g2;obtain⟨l,hc⟩:=xlG g3 (fun q hq=>hw q (xbC (j:=3) (xs:=[y0,y1,y2,y3]) Try.underlying52 rfl rfl q hq))
  simp at e0 e1 e2
  subst e0 e1 e2
  have hs:s.size<=140737488351232:=by
   have:=hw s.data.toList.length (xbC (j:=0) (xs:=[y0,y1,y2,y3]) Try.underlying52 rfl rfl _ (by rw[e5];simp[DataW.weights]))
   simpa using this
  exact⟨⟨s,b,c,l⟩,rfl,rfl,rfl,hs,_,rfl,hc⟩
theorem xi0 {fuel:Nat}{v:Value}{x:DataW H × List MemPlace}(h:DataW.trod enc Try.prog w base spare held fuel 22 [v]=some x)(hw:∀ n∈x.1.weights Try.prog 22,n<=140737488351232):∃ xs,xai Tru w v xs:=
 xdm xaA Try.underlying22 xsy xsq (by omega) (fun n cs x hl h hw=>xlf hl h hw) h hw
theorem xlc {r:Reach}{b0:Nat}{v:Value}{d:DataW H}{p:List MemPlace}(hv:Value.okWide Try.prog w r b0 25 v)(h:DataW.Trod enc Try.prog w base spare held 25 v d p)(hw:∀ n∈d.weights Try.prog 25,n<=140737488351232):∃ (X:QW) (cv hv:Value),v=WV cv hv X.ez/\xai Tru w cv X.cz/\xaD Tru w hv X.heap:=by
 obtain⟨v0,v1,v2,y0,y1,y2,n,rfl,rfl,rfl,h0,h1,h2⟩:=Joins.open_agg3 Try.underlying25 (by kernel_rfl) xps hv h
 obtain⟨cs,hc⟩:=xi0 h0 (fun q hq=>hw q (xbC (j:=0) (xs:=[y0,y1,y2]) Try.underlying25 rfl rfl q hq))
 obtain⟨hs,hh⟩:=xma h1 (fun q hq=>hw q (xbC (j:=1) (xs:=[y0,y1,y2]) Try.underlying25 rfl rfl q hq))
 obtain⟨e,e2,-,-⟩:=DataW.trod_int Try.underlying3 h2
 simp at e2
 subst e2
 exact⟨⟨cs,hs,e⟩,v0,v1,rfl,hc,hh⟩
end
def xgJ:List QM:=[⟨⟨#[42]⟩,1,0,3,[]⟩,⟨⟨#[43]⟩,1,0,1,[]⟩,⟨⟨#[45]⟩,1,0,2,[]⟩,⟨⟨#[60]⟩,1,0,4,[]⟩,⟨⟨#[61]⟩,1,0,5,[]⟩]
def xio:List QC:=[⟨⟨#[79,98,106,101,99,116]⟩,-1,0,[]⟩,⟨⟨#[78,105,108]⟩,0,0,[]⟩,⟨⟨#[66,111,111,108]⟩,0,0,[]⟩,⟨⟨#[73,110,116]⟩,0,0,xgJ⟩]
def xrh:QW:=⟨xio,[],0⟩
theorem xbn {α:Type}{E:Lay α}{sz bytes:Nat}{P:Nat->Prop}{w:World}:IsRow E sz bytes P w (.slice none 0 0) []:=
 ⟨none,0,rfl,qzC _,by unfold maxLen;omega,by simp,fun i x hx=>by simp at hx⟩
theorem xcd {P:Nat->Prop}{w:World}(x:QM)(v:Value)(h:x.name.size<=140737488351232)(hv:xaR P w v x.code):Cells xfx 5 P w [.string x.name,.int .i64 x.args,.int .i64 x.temps,.int .i64 x.prim,v] [x]:=
 Cells.one xbq rfl ⟨rfl,rfl,rfl,rfl,h,v,rfl,hv⟩
theorem xdF {P:Nat->Prop}{w:World}(x:QC)(v:Value)(h:x.name.size<=140737488351232)(hv:xbm P w v x.mz):Cells xeC 4 P w [.string x.name,.int .i64 x.super,.int .i64 x.slots,v] [x]:=
 Cells.one xaA rfl ⟨rfl,rfl,rfl,h,v,rfl,hv⟩
def xfq:List Value:=[.string ⟨#[42]⟩,.int .i64 1,.int .i64 0,.int .i64 3,.slice none 0 0,.string ⟨#[43]⟩,.int .i64 1,.int .i64 0,.int .i64 1,.slice none 0 0,.string ⟨#[45]⟩,.int .i64 1,.int .i64 0,.int .i64 2,.slice none 0 0,.string ⟨#[60]⟩,.int .i64 1,.int .i64 0,.int .i64 4,.slice none 0 0,.string ⟨#[61]⟩,.int .i64 1,.int .i64 0,.int .i64 5,.slice none 0 0]
theorem xkU {P:Nat->Prop}{w:World}:Cells xfx 5 P w xfq xgJ:=
 ((((xcd ⟨⟨#[42]⟩,1,0,3,[]⟩ _ (by decide) xbn).append xbq (xcd ⟨⟨#[43]⟩,1,0,1,[]⟩ _ (by decide) xbn)).append xbq (xcd ⟨⟨#[45]⟩,1,0,2,[]⟩ _ (by decide) xbn)).append xbq (xcd ⟨⟨#[60]⟩,1,0,4,[]⟩ _ (by decide) xbn)).append xbq (xcd ⟨⟨#[61]⟩,1,0,5,[]⟩ _ (by decide) xbn)
def xnA (v:Value):List Value:=[.string ⟨#[79,98,106,101,99,116]⟩,.int .i64 (-1),.int .i64 0,.slice none 0 0,.string ⟨#[78,105,108]⟩,.int .i64 0,.int .i64 0,.slice none 0 0,.string ⟨#[66,111,111,108]⟩,.int .i64 0,.int .i64 0,.slice none 0 0,.string ⟨#[73,110,116]⟩,.int .i64 0,.int .i64 0,v]
theorem xlp {P:Nat->Prop}{w:World}{v:Value}(h:xbm P w v xgJ):Cells xeC 4 P w (xnA v) xio:=
 (((xdF ⟨⟨#[79,98,106,101,99,116]⟩,-1,0,[]⟩ _ (by decide) xbn).append xaA (xdF ⟨⟨#[78,105,108]⟩,0,0,[]⟩ _ (by decide) xbn)).append xaA (xdF ⟨⟨#[66,111,111,108]⟩,0,0,[]⟩ _ (by decide) xbn)).append xaA (xdF ⟨⟨#[73,110,116]⟩,0,0,xgJ⟩ v (by decide) h)
theorem xbd {n b:Nat}{w W:World}(h:Below n w W)(hb:n<=b)(x y z:Value):Below n w (((W.setCell ⟨b,0,none⟩ x).setCell ⟨b,1,none⟩ y).setCell ⟨b,2,none⟩ z):=((h.setCell hb _).setCell hb _).setCell hb _
def ltN (a b:ByteArray):Bool:=Op.bytesLess a.toList b.toList
def RisesM (ms:List QM):Prop:=∀ (i:Nat) x y,ms[i]?=some x->ms[i+1]?=some y->ltN x.name y.name=true
def xiX (xs:List QC):Prop:=∀ (i:Nat) x,xs[i]?=some x->RisesM x.mz
structure NextR where
 need:Int
 more:Int
 next:List Int
def xaS (x:QI)(at':Int):NextR:=
 if x.op=9\/x.op=11\/x.op=12 then ⟨1,-1,[at'+1]⟩
 else if x.op=10 then ⟨1,1,[at'+1]⟩
 else if x.op=14 then ⟨x.a+1,-x.a,[at'+1]⟩
 else if x.op=15 then ⟨0,0,[x.a]⟩
 else if x.op=16 then ⟨1,-1,[at'+1,x.a]⟩
 else if x.op=17 then ⟨1,-1,[]⟩
 else ⟨0,1,[at'+1]⟩
def xdr (code:List QI):Prop:=∀ x∈code,x.op=14->0<=x.a/\x.a<=4
theorem xem {x:QI}(h:x.op=14->0<=x.a/\x.a<=4)(p:Int):0<=(xaS x p).need/\(xaS x p).need<=5/\-4<=(xaS x p).more/\(xaS x p).more<=1/\0<=(xaS x p).need+(xaS x p).more/\(xaS x p).next.length<=2:=by
 unfold xaS
 by_cases h14:x.op=14
 ·obtain⟨h1,h2⟩:=h h14
  simp[h14]
  omega
 ·(repeat' split)<;>simp_all
def xdf (code:List QI)(p:Int):Option QI:=if 0<=p then code[p.toNat]? else none
theorem xdE {code:List QI}{p:Int}{x:QI}(h:xdf code p=some x):∃ k:Nat,p=(k:Int)/\code[k]?=some x:=by
 unfold xdf at h
 split at h
 ·exact⟨p.toNat,by omega,h⟩
 ·cases h
theorem xi7 {code:List QI}{p:Int}:xdf code p=none ↔ p<0\/(code.length:Int)<=p:=by
 unfold xdf
 split
 ·rw[List.getElem?_eq_none_iff];omega
 ·simp;omega
def xc1 (code:List QI)(h:List Int)(p:Int × Int):(Int × Int) ⊕ (List Int × List (Int × Int)):=
 match xdf code p.1 with
 | none=>.inl (9,(code.length:Int))
 | some x=>
  if 0<=h.getD p.1.toNat 0 then if h.getD p.1.toNat 0≠p.2 then .inl (8,p.1) else .inr (h,[])
  else if p.2<(xaS x p.1).need\/x.op=17/\p.2≠1 then .inl (8,p.1)
  else if 12<p.2+(xaS x p.1).more then .inl (4,p.1)
  else .inr (h.set p.1.toNat p.2,(xaS x p.1).next.map fun t=>(t,p.2+(xaS x p.1).more))
def xje (code:List QI):Nat->List Int->List (Int × Int)->List Int × (Int × Int)
 | 0,h,_=>(h,(0,0))
 | _+1,h,[]=>(h,(0,0))
 | g+1,h,p :: q=>match xc1 code h p with
  | .inl f=>([],f)
  | .inr (h',new)=>xje code g h' (q++new)
def xeK (h:List Int)(q:List (Int × Int)):Nat:=q.length+2*h.countP (fun v=>decide (v<0))
def xc3 (n:Nat):List Int:=List.replicate n (-1)
def xaT (code:List QI):List Int × (Int × Int):=xje code (2*code.length+1) (xc3 code.length) [(0,0)]
theorem xlB {h:List Int}{k:Nat}{v:Int}(hk:h.getD k 0<0)(hv:0<=v)(hl:k<h.length):(h.set k v).countP (fun v=>decide (v<0))+1=h.countP (fun v=>decide (v<0)):=by
 induction h generalizing k with
 | nil=>simp at hl
 | cons a r ih=>
  cases k with
  | zero=>
   have:a<0:=by simpa using hk
   have hv':¬ v<0:=by omega
   simp[List.set,this,hv']
  | succ k=>
   simp only[List.set,List.countP_cons];have:=ih (k:=k) (by simpa using hk) (by simpa using hl)
   omega
structure HInv (code:List QI)(h:List Int)(q:List (Int × Int)):Prop where
 len:h.length=code.length
 wait:∀ p∈q,0<=p.2/\p.2<=12
theorem HInv.start (code:List QI):HInv code (xc3 code.length) [(0,0)]:=⟨by simp[xc3],fun p hp=>by simp at hp;subst hp;simp⟩
theorem xge (code:List QI):xeK (xc3 code.length) [(0,0)]=2*code.length+1:=by
 simp[xeK,xc3,List.countP_replicate];omega
theorem HInv.step {code:List QI}{h h':List Int}{p:Int × Int}{q new:List (Int × Int)}(hi:HInv code h (p :: q))(hs:xdr code)(he:xc1 code h p=.inr (h',new)):HInv code h' (q++new)/\xeK h' (q++new)+1<=xeK h (p :: q):=by
 have hw:=hi.wait p (by simp)
 have hq:∀ r∈q,0<=r.2/\r.2<=12:=fun r hr=>hi.wait r (by simp[hr])
 unfold xc1 at he
 cases hx:xdf code p.1 with
 | none=>rw[hx] at he;cases he
 | some x=>
  rw[hx] at he;simp only at he;obtain⟨k,hk,hxk⟩:=xdE hx;have hr:=xem (x:=x) (hs x (List.mem_of_getElem? hxk)) p.1
  split at he
  ·split at he
   ·cases he
   ·simp only[Sum.inr.injEq,Prod.mk.injEq] at he;obtain⟨rfl,rfl⟩:=he
    exact⟨⟨hi.len,by simpa using hq⟩,by simp[xeK];omega⟩
  ·rename_i hneg
   split at he
   ·cases he
   ·rename_i hfit
    split at he
    ·cases he
    ·rename_i hmuch;simp only[Sum.inr.injEq,Prod.mk.injEq] at he;obtain⟨rfl,rfl⟩:=he
     have hl:p.1.toNat<h.length:=by
      have:=xae hxk;rw[hi.len];omega
     have hc:=xlB (h:=h) (k:=p.1.toNat) (v:=p.2) (by omega) hw.1 hl
     refine⟨⟨by rw[List.length_set];exact hi.len,fun r hr'=>?_⟩,?_⟩
     ·rcases List.mem_append.1 hr' with h1 | h1
      ·exact hq r h1
      ·obtain⟨t,-,rfl⟩:=List.mem_map.1 h1;have:¬ (p.2<(xaS x p.1).need):=fun h=>hfit (Or.inl h)
       simp only
       omega
     ·simp only[xeK,List.length_append,List.length_map,List.length_cons]
      omega
theorem xgh {code:List QI}{h:List Int}{p f:Int × Int}(he:xc1 code h p=.inl f):f.1≠0:=by
 unfold xc1 at he
 cases hx:xdf code p.1 with
 | none=>rw[hx] at he;simp at he;rw[← he];simp
 | some x=>
  rw[hx] at he;simp only at he
  (repeat' split at he)<;>simp at he<;>rw[← he]<;>simp
def HAt (code:List QI)(h:List Int)(q:List (Int × Int))(k:Nat)(x:QI):Prop:=
 (xaS x k).need<=h.getD k 0/\h.getD k 0<=12/\(x.op=17->h.getD k 0=1)/\
  ∀ t∈(xaS x k).next,(t,h.getD k 0+(xaS x k).more)∈q\/∃ j:Nat,t=(j:Int)/\j<code.length/\h.getD j 0=h.getD k 0+(xaS x k).more
def HClo (code:List QI)(h:List Int)(q:List (Int × Int)):Prop:=
 ((0,0)∈q\/0<code.length/\h.getD 0 0=0)/\∀ (k:Nat) x,code[k]?=some x->0<=h.getD k 0->HAt code h q k x
theorem HClo.start (code:List QI):HClo code (xc3 code.length) [(0,0)]:=by
 refine⟨Or.inl (by simp),fun k x hx h0=>?_⟩
 have hk:=xae hx
 simp[xc3,hk] at h0
theorem xhF {h:List Int}{k:Nat}{v:Int}(hk:k<h.length):(h.set k v).getD k 0=v:=by simp[hk]
theorem xbU {h:List Int}{k j:Nat}{v:Int}(hk:k≠j):(h.set k v).getD j 0=h.getD j 0:=by simp[List.getElem?_set_ne hk]
theorem HClo.step {code:List QI}{h h':List Int}{p:Int × Int}{q new:List (Int × Int)}(hi:HInv code h (p :: q))(hc:HClo code h (p :: q))(hs:xdr code)(he:xc1 code h p=.inr (h',new)):HClo code h' (q++new):=by
 have hw:=hi.wait p (by simp)
 unfold xc1 at he
 cases hx:xdf code p.1 with
 | none=>rw[hx] at he;cases he
 | some x=>
  rw[hx] at he;simp only at he;obtain⟨k,hk,hxk⟩:=xdE hx;have hkl:=xae hxk;have hpk:p.1.toNat=k:=by omega
  rw[hpk] at he
  split at he
  ·rename_i hge
   split at he
   ·cases he
   ·rename_i heq;simp only[Sum.inr.injEq,Prod.mk.injEq] at he;obtain⟨rfl,rfl⟩:=he;have heq':h.getD k 0=p.2:=by simpa using heq
    have mem:∀ t v,(t,v)∈p :: q->(t,v)∈q++[]\/∃ j:Nat,t=(j:Int)/\j<code.length/\h.getD j 0=v:=fun t v hm=>by
     rcases List.mem_cons.1 hm with e | e
     ·exact Or.inr ⟨k,by rw[← hk,← e],hkl,by rw[heq',← e]⟩
     ·exact Or.inl (by simpa using e)
    refine⟨?_,fun j y hy h0=>?_⟩
    ·rcases hc.1 with e | e
     ·rcases mem 0 0 e with e | ⟨j,e1,e2,e3⟩
      ·exact Or.inl e
      ·obtain rfl:j=0:=by omega
       exact Or.inr ⟨e2,e3⟩
     ·exact Or.inr e
    ·obtain⟨a1,a2,a3,a4⟩:=hc.2 j y hy h0;refine⟨a1,a2,a3,fun t ht=>?_⟩
     rcases a4 t ht with e | e
     ·exact mem _ _ e
     ·exact Or.inr e
  ·rename_i hneg
   split at he
   ·cases he
   ·rename_i hfit
    split at he
    ·cases he
    ·rename_i hmuch;simp only[Sum.inr.injEq,Prod.mk.injEq] at he;obtain⟨rfl,rfl⟩:=he;have hl:k<h.length:=by rw[hi.len];exact hkl
     have hself:(h.set k p.2).getD k 0=p.2:=xhF hl
     have mem:∀ t v,(t,v)∈p :: q->(t,v)∈q++(xaS x p.1).next.map (fun t=>(t,p.2+(xaS x p.1).more))\/∃ j:Nat,t=(j:Int)/\j<code.length/\(h.set k p.2).getD j 0=v:=fun t v hm=>by
      rcases List.mem_cons.1 hm with e | e
      ·exact Or.inr ⟨k,by rw[← hk,← e],hkl,by rw[hself,← e]⟩
      ·exact Or.inl (List.mem_append_left _ e)
     refine⟨?_,fun j y hy h0=>?_⟩
     ·rcases hc.1 with e | e
      ·rcases mem 0 0 e with e | ⟨j,e1,e2,e3⟩
       ·exact Or.inl e
       ·obtain rfl:j=0:=by omega
        exact Or.inr ⟨e2,e3⟩
      ·refine Or.inr ⟨e.1,?_⟩
       by_cases hk0:k=0
       ·subst hk0;rw[e.2] at hneg;omega
       ·rw[xbU hk0];exact e.2
     ·by_cases hjk:j=k
      ·subst hjk;rw[hxk] at hy
       cases hy
       unfold HAt;rw[hself,← hk];refine⟨?_,hw.2,fun h17=>?_,fun t ht=>Or.inl (List.mem_append_right _ (List.mem_map.2 ⟨t,ht,rfl⟩))⟩
       ·have:¬ (p.2<(xaS x p.1).need):=fun h=>hfit (Or.inl h)
        omega
       ·have:¬ (p.2≠1):=fun h=>hfit (Or.inr ⟨h17,h⟩)
        omega
      ·have hjk':k≠j:=fun e=>hjk e.symm
       rw[xbU hjk'] at h0;obtain⟨a1,a2,a3,a4⟩:=hc.2 j y hy h0;unfold HAt;rw[xbU hjk'];refine⟨a1,a2,a3,fun t ht=>?_⟩
       rcases a4 t ht with e | ⟨i,e1,e2,e3⟩
       ·exact mem _ _ e
       ·refine Or.inr ⟨i,e1,e2,?_⟩;have hr:=xem (x:=y) (hs y (List.mem_of_getElem? hy)) j;have hik:k≠i:=fun e=>by subst e;omega
        rw[xbU hik];exact e3
theorem xnz {code:List QI}(hs:xdr code):∀ (g:Nat) (h:List Int) (q:List (Int × Int)),HInv code h q->HClo code h q->xeK h q<=g->(xje code g h q).2.1=0->HInv code (xje code g h q).1 []/\HClo code (xje code g h q).1 []
 | 0,h,q,hi,hc,hg,he=>by
  have:q=[]:=List.eq_nil_of_length_eq_zero (by unfold xeK at hg;omega)
  subst this
  exact⟨hi,hc⟩
 | g+1,h,[],hi,hc,hg,he=>⟨hi,hc⟩
 | g+1,h,p :: q,hi,hc,hg,he=>by
  unfold xje at he ⊢
  cases hst:xc1 code h p with
  | inl f=>rw[hst] at he;exact absurd he (xgh hst)
  | inr r=>
   obtain⟨h',new⟩:=r;rw[hst] at he;have h1:=hi.step hs hst
   exact xnz hs g h' (q++new) h1.1 (hc.step hi hs hst) (by omega) he
theorem xg1 {code:List QI}(hs:xdr code)(he:(xaT code).2.1=0):(xaT code).1.length=code.length/\0<code.length/\(xaT code).1.getD 0 0=0/\∀ (k:Nat) x,code[k]?=some x->0<=(xaT code).1.getD k 0->
  (xaS x k).need<=(xaT code).1.getD k 0/\(xaT code).1.getD k 0<=12/\(x.op=17->(xaT code).1.getD k 0=1)/\∀ t∈(xaS x k).next,∃ j:Nat,t=(j:Int)/\j<code.length/\(xaT code).1.getD j 0=(xaT code).1.getD k 0+(xaS x k).more:=by
 obtain⟨h1,h2,h3⟩:=xnz hs _ _ _ (HInv.start code) (HClo.start code) (Nat.le_of_eq (xge code)) he
 have h0:0<code.length/\(xaT code).1.getD 0 0=0:=by
  rcases h2 with h | h;· simp at h
  ·exact h
 refine⟨h1.len,h0.1,h0.2,fun k x hx hk=>?_⟩
 obtain⟨a1,a2,a3,a4⟩:=h3 k x hx hk;refine⟨a1,a2,a3,fun t ht=>?_⟩
 rcases a4 t ht with e | e
 ·simp at e
 ·exact e
def ownsAt (w:World)(base:Nat)(e:TypeId)(sz:Nat)(v:Value)(n:Nat)(xs:List Value):Prop:=
 xs.length=n*sz/\((v=.slice none 0 0/\n=0)\/∃ g o cap cur,v=.slice (some ⟨g,o,none⟩) n cap/\base<=g/\w.heap[g]?=some (.cells cur e (0,0))/\n<=cap/\cap<=maxLen/\o+cap*sz<=cur.size/\(cur.toList.drop o).take (n*sz)=xs)
theorem ownsAt.keep {w w':World}{base:Nat}{e:TypeId}{sz:Nat}{v:Value}{n:Nat}{xs:List Value}(h:ownsAt w base e sz v n xs)(hk:∀ g,v.ownBlock=some g->w'.heap[g]?=w.heap[g]?):ownsAt w' base e sz v n xs:=by
 obtain⟨h1,h2 | ⟨g,o,cap,cur,rfl,h3,h4,h5⟩⟩:=h
 ·exact⟨h1,Or.inl h2⟩
 ·exact⟨h1,Or.inr ⟨g,o,cap,cur,rfl,h3,by rw[hk g (by simp[Value.ownBlock])];exact h4,h5⟩⟩
theorem ownsAt.lt {w:World}{base:Nat}{e:TypeId}{sz:Nat}{v:Value}{n:Nat}{xs:List Value}(h:ownsAt w base e sz v n xs):∀ g,v.ownBlock=some g->base<=g/\g<w.heap.size:=by
 obtain⟨h1,h2 | ⟨g,o,cap,cur,rfl,h3,h4,h5⟩⟩:=h
 ·intro g hg;rw[h2.1] at hg;cases hg
 ·intro g' hg
  simp[Value.ownBlock] at hg
  subst hg
  exact⟨h3,xal h4⟩
theorem ownsAt.alloc {w:World}{base:Nat}{e:TypeId}{sz:Nat}{v:Value}{n:Nat}{xs:List Value}(h:ownsAt w base e sz v n xs)(o:Obj):ownsAt (w.alloc o) base e sz v n xs:=
 h.keep fun g hg=>(xak w o).block _ (h.lt g hg).2
theorem ownsAt.form {w:World}{base:Nat}{e:TypeId}{sz:Nat}{v:Value}{n:Nat}{xs:List Value}(h:ownsAt w base e sz v n xs):∃ a cap,v=.slice a n cap/\n<=cap/\cap<=maxLen:=by
 obtain⟨-,⟨rfl,rfl⟩ | ⟨g,o,cap,cur,rfl,-,-,h1,h2,-⟩⟩:=h
 ·exact⟨none,0,rfl,qzC _,by unfold maxLen;omega⟩
 ·exact⟨_,cap,rfl,h1,h2⟩
theorem xcQ {g:Nat}{t:TypeId}:∀ (vs:List Value) (o:Nat) (w:World) (cur:Array Value),w.heap[g]?=some (.cells cur t (0,0))->o+vs.length<=cur.size->(w.setCells g o vs).heap[g]?=some (.cells (cur.toList.take o++vs++cur.toList.drop (o+vs.length)).toArray t (0,0))
 | [],o,w,cur,h,hl=>by simpa [World.setCells] using h
 | v :: vs,o,w,cur,h,hl=>by
  simp only[List.length_cons] at hl;unfold World.setCells;rw[xcQ vs (o+1) _ _ (xag h v) (by simp;omega)]
  congr 3
  apply List.ext_getElem?
  intro i;simp only[Array.toList_setIfInBounds,List.length_cons,List.getElem?_append,List.length_append,List.length_take,List.length_set,Array.length_toList,List.getElem?_take,List.getElem?_drop,List.getElem?_set,List.getElem?_cons];have e1:min (o+1) cur.size=o+1:=by omega
  have e2:min o cur.size=o:=by omega
  rw[e1,e2]
  by_cases h1:i<o
  ·simp[h1,show i<o+1 by omega,show i<o+1+vs.length by omega,show i<o+(vs.length+1) by omega,show ¬ o=i by omega]
  ·by_cases h2:i=o
   ·subst h2
    simp[show i<i+1+vs.length by omega,show i<cur.size by omega]
   ·by_cases h3:i<o+1+vs.length
    ·obtain⟨d,rfl⟩:∃ d,i=o+1+d:=⟨i-(o+1),by omega⟩
     simp[show ¬ (o+1+d<o) by omega,h3,show o+1+d<o+(vs.length+1) by omega,show ¬ (o+1+d<o+1) by omega,show o+1+d-(o+1)=d by omega,show o+1+d-o=d+1 by omega]
    ·have h4:¬ (i<o+(vs.length+1)):=by omega
     simp only[h3,h4,if_false,show ¬ i<o by omega]
     rw[show o+1+vs.length+(i-(o+1+vs.length))=i by omega,show o+(vs.length+1)+(i-(o+(vs.length+1)))=i by omega]
     simp[show ¬ o=i by omega]
theorem xbk (g:Nat):∀ (vs:List Value) (o:Nat) (w:World),Below g w (w.setCells g o vs)
 | [],o,w=>qzL _ _
 | v :: vs,o,w=>by
  unfold World.setCells
  exact ((qzL g w).setCell (qzC g) _).trans (xbk g vs (o+1) _)
theorem xcK {w:World}{base base':Nat}{e:TypeId}{sz:Nat}{v:Value}{n:Nat}{xs:List Value}(h:w.ownsRow base' e sz v n xs)(hb:base<=base'):ownsAt w base e sz v n xs:=by
 obtain⟨h1,h2 | ⟨g,c,cur,e,h3,h4,h5,h6,h7,h8⟩⟩:=h
 ·exact⟨h1,Or.inl h2⟩
 ·exact⟨h1,Or.inr ⟨g,0,c,cur,e,by omega,h4,h5,h6,by omega,by simpa using h8⟩⟩
theorem xaL {w:World}(T ty e:TypeId)(z:Value)(sz bytes:Nat)(hT:Try.prog.underlying T=some (.slice e))(hI:(Try.prog.info? e).map (fun i=>(i.zero,i.size,i.bytes))=some (some z,sz,bytes))(hzs:z.cells.size=sz)(hsz:0<sz)
  (base n:Nat) (v:Value) (xs:List Value) (hown:ownsAt w base e sz v n xs) (Bb:Nat) (news:List Value) (hl:news.length=sz) (hX:w.heap[Bb]?=some (.cells news.toArray e (0,0))) (h1:∀ u∈news,u.oneCell'=true) (h63:n+1<=maxLen) (hby:(n+1)*bytes<=140737488355328) (hbase:base<=w.heap.size) :
  ∃ v' w',(Builtin.append_ #[T,T] ty #[v,.slice (some ⟨Bb,0,none⟩) 1 1]).run Try.prog w=.ok v' w'/\ownsAt w' base e sz v' (n+1) (xs++news)/\(v'.ownBlock=v.ownBlock\/∃ g,v'.ownBlock=some g/\w.heap.size<=g)/\Below base w w'/\(∀ b,b<w.heap.size->some b≠v.ownBlock->w'.heap[b]?=w.heap[b]?):=by
 obtain⟨i0,hi,hz0,hz1,hz2⟩:=xa8 hI;have hnews:∀ j u,news[j]?=some u->w.cell? ((⟨Bb,0,none⟩:Addr).add j)=some u:=fun j u hu=>by rw[Addr.add_lit,Nat.zero_add,qzB hX];simpa using hu
 obtain⟨hxl,⟨rfl,rfl⟩ | ⟨g,o,cap,cur,rfl,h3,h4,h5,h6,h7,h8⟩⟩:=id hown
 ·obtain⟨v',w',hrun,r1,r2,_⟩:=run_append_own (P:=Try.prog) w w.heap.size T ty e i0 z sz bytes hT hi hz0 hz1 hz2 hzs hsz (.slice none 0 0) 0 [] (World.ownsRow_nil w _ e sz) ⟨Bb,0,none⟩ 1 1 news (by omega) hnews h1 h63 hby (qzC _)
  have hxs:xs=[]:=List.eq_nil_of_length_eq_zero (by simpa using hxl)
  subst hxs;refine⟨v',w',hrun,xcK (by simpa using r1) hbase,Or.inr ?_,?_,fun b hb hne=>r2.block b hb hne⟩
  ·obtain⟨-,h | ⟨g,c,cur,e,h3,h4,-⟩⟩:=r1
   ·omega
   ·exact⟨g,by rw[e];rfl,h3⟩
  ·exact (qzL _ _).grown r2 hbase fun k hk=>by cases hk
 ·by_cases hr:n+1<=cap
  ·have hcs:cur.toList.length=cur.size:=by simp
   have hon:o+n*sz+news.length<=cur.size:=by
    have:(n+1)*sz<=cap*sz:=Nat.mul_le_mul_right _ hr;rw[Nat.add_mul] at this
    omega
   have hrun:=run_append_room_cells (P:=Try.prog) w T ty e i0 hT hi g o n cap ⟨Bb,0,none⟩ 1 1 news (by rw[hz1];omega) hnews h1 hr (fun j hj=>by rw[hz1,qzB h4];simp;omega) (fun j hj=>by unfold World.frozen?;simp[h4])
   rw[hz1] at hrun;have hrow:=xcQ news (o+n*sz) w cur h4 hon;refine⟨_,_,hrun,⟨by rw[List.length_append,hxl,hl,Nat.add_mul];omega,Or.inr ⟨g,o,cap,_,rfl,h3,hrow,hr,h6,?_,?_⟩⟩,Or.inl rfl,?_,fun b hb hne=>xa0 (fun e=>hne (by rw[e];rfl)) _ _ _⟩
   ·simp
    omega
   ·rw[← h8]
    apply List.ext_getElem?
    intro i;simp only[List.getElem?_take,List.getElem?_drop,List.getElem?_append,List.length_append,List.length_take,List.length_drop,hcs];have e1:min (o+n*sz) cur.size=o+n*sz:=by omega
    have e2:min (n*sz) (cur.size-o)=n*sz:=by omega
    rw[e1,e2];have e3:(n+1)*sz=n*sz+sz:=by rw[Nat.add_mul];omega
    rw[e3]
    by_cases g1:i<n*sz
    ·simp[g1,show i<n*sz+sz by omega,show o+i<o+n*sz by omega,show o+i<o+n*sz+news.length by omega]
    ·by_cases g2:i<n*sz+sz
     ·simp[g1,g2,show ¬ (o+i<o+n*sz) by omega,show o+i<o+n*sz+news.length by omega,show o+i-(o+n*sz)=i-n*sz by omega]
     ·simp[g1,g2]
      omega
   ·refine⟨?_,?_,?_,?_,fun k hk=>xa0 (by omega) _ _ _⟩
    ·exact (xbk _ _ _ _).os
    ·exact (xbk _ _ _ _).tape
    ·exact (xbk _ _ _ _).output
    ·rw[xbJ];exact qzC _
  ·obtain⟨v',w',hrun,r1,r2⟩:=run_append_arg_grows (P:=Try.prog) w T ty e i0 z sz bytes hT hi hz0 hz1 hz2 hzs hsz ⟨g,o,none⟩ n cap xs hxl (fun j u hu=>by
    rw[Addr.add_lit,qzB h4];rw[← h8,List.getElem?_take] at hu
    split at hu
    ·rw[List.getElem?_drop] at hu;simpa using hu
    ·cases hu) ⟨Bb,0,none⟩ 1 1 news (by omega) hnews (by omega) h63 hby
   refine⟨v',w',hrun,xcK r1 hbase,Or.inr ?_,?_,fun b hb hne=>r2.block b hb (by simp)⟩
   ·obtain⟨-,h | ⟨g,c,cur,e,h3,h4,-⟩⟩:=r1
    ·omega
    ·exact⟨g,by rw[e];rfl,h3⟩
   ·exact (qzL _ _).grown r2 hbase fun k hk=>by cases hk
theorem xbf {ops:Array Oper}{rest:List Oper}{o:Oper}{a:Act}{w:World}{Q:Exit->Act->World->Prop}(hgd:o.guard=none)(s x:Operand)(T e:TypeId)(z:Value)(sz bytes:Nat)
  (hop:o.op=Op.call { callee:=Callee.builtin Builtin.append,args:=#[s,x],argTypes:=#[T,T] }) (hT:Try.prog.underlying T=some (.slice e)) (hI:(Try.prog.info? e).map (fun i=>(i.zero,i.size,i.bytes))=some (some z,sz,bytes)) (hzs:z.cells.size=sz) (hsz:0<sz)
  (base n:Nat) (v:Value) (xs:List Value) (hs:a.eval s=v) (hown:ownsAt w base e sz v n xs) (Bb:Nat) (hx:a.eval x=.slice (some ⟨Bb,0,none⟩) 1 1) (news:List Value) (hl:news.length=sz) (hX:w.heap[Bb]?=some (.cells news.toArray e (0,0))) (h1:∀ u∈news,u.oneCell'=true) (h63:n+1<=maxLen) (hby:(n+1)*bytes<=140737488355328) (hbase:base<=w.heap.size)
  (hK:∀ a' cap' w',ownsAt w' base e sz (.slice a' (n+1) cap') (n+1) (xs++news)->((Value.slice a' (n+1) cap').ownBlock=v.ownBlock\/∃ g,(Value.slice a' (n+1) cap').ownBlock=some g/\w.heap.size<=g)->Below base w w'->(∀ b,b<w.heap.size->some b≠v.ownBlock->w'.heap[b]?=w.heap[b]?)->wpList Try.prog ops Q rest (a.put o.dst (.slice a' (n+1) cap')) w') :
  wpList Try.prog ops Q (o :: rest) a w:=by
 refine wpList_plain hgd fun K hKK=>?_
 obtain⟨v',w',hrun,r1,r2,r3,r4⟩:=xaL T o.type e z sz bytes hT hI hzs hsz base n v xs hown Bb news hl hX h1 h63 hby hbase;obtain⟨a',cap',rfl,-⟩:=r1.form;unfold Oper.wp
 simp[execOp,hop,resolve,invoke,builtin,hs,hx,hrun,Result.andThen]
 exact hKK _ _ (hK a' cap' w' r1 r2 r3 r4)
theorem xad {w w':World}{B:Nat}{o:Obj}(h:w.heap[B]?=some o)(hb:Below w.heap.size w w'):w'.heap[B]?=some o:=by rw[hb.block _ (xal h)];exact h
abbrev IV (x:QI):Value:=.agg #[.int .i64 x.op,.int .i64 x.a,.int .i64 x.b,.int .i64 x.c,.string x.name]
theorem xat {n:Int}(h1:-9223372036854775808<=n)(h2:n<=9223372036854775807):IntKind.i64.wrap n=n:=by rw[IntKind.wrap_i64];omega
def xcf (h:List Int):List Value:=h.map fun x=>.int .i64 x
abbrev xfu (h:List Int):Obj:=.cells (xcf h).toArray 3 (0,0)
theorem xer {w:World}{g:Nat}{h:List Int}(hg:w.heap[g]?=some (xfu h)){k:Nat}(hk:k<h.length):w.cell? ⟨g,k,none⟩=some (.int .i64 (h.getD k 0)):=by
 rw[qzB hg];simp[xcf,hk]
theorem xeH {w:World}{g:Nat}{h:List Int}(hg:w.heap[g]?=some (xfu h))(k:Nat):w.frozen? ⟨g,k,none⟩=false:=by unfold World.frozen?;simp[hg]
theorem xfJ {w:World}{g:Nat}{h:List Int}(hg:w.heap[g]?=some (xfu h))(k:Nat)(v:Int):(w.setCell ⟨g,k,none⟩ (.int .i64 v)).heap[g]?=some (xfu (h.set k v)):=by
 rw[xag hg];simp[xcf,List.map_set]
abbrev FV (f:Int × Int):Value:=.agg #[.int .i64 f.1,.int .i64 f.2]
theorem xfY (n:Nat)(hb:n*8<=140737488351232)(w:World):(Instr.makeSlice 48 (.int .i64 (n:Int)) (.int .i64 (n:Int))).run Try.prog w=.ok (.slice (some ⟨w.heap.size,0,none⟩) n n) (w.alloc (xfu (List.replicate n 0))):=by
 obtain⟨i0,hi,hz0,hz1,hz2⟩:=xa8 xj0;have:=run_make (P:=Try.prog) w 48 3 i0 _ Try.underlying48 hi hz0 .i64 .i64 n n (by omega) (by omega) (by rw[hz2];omega) (by omega)
 rw[this,hz1]
 simp[madeCells,Value.cells,xfu,xcf]
 congr 2
 apply Array.ext
 ·simp
 ·intro i h1 h2
  simp[Nat.mod_one]
theorem xoK {n j:Nat}(h:j<n):(List.replicate j (-1:Int)++List.replicate (n-j) 0).set j (-1)=List.replicate (j+1) (-1)++List.replicate (n-(j+1)) 0:=by
 apply List.ext_getElem?
 intro i;simp only[List.getElem?_set,List.getElem?_append,List.length_append,List.length_replicate,List.getElem?_replicate]
 by_cases h1:i=j
 ·subst h1
  simp
  omega
 ·by_cases h2:i<j
  ·simp[h2,show i<j+1 by omega,show ¬ j=i by omega]
  ·simp only[show ¬ j=i by omega,if_false,h2,show ¬ (i<j+1) by omega]
   by_cases h3:i<n
   ·rw[if_pos (by omega),if_pos (by omega)]
   ·rw[if_neg (by omega),if_neg (by omega)]
def xkQ (w:World)(code:List QI)(e:Ending)(w':World):Prop:=
 Below w.heap.size w w'/\(((xaT code).2.1=0/\∃ g,e=.returned (.tuple #[.slice (some ⟨g,0,none⟩) code.length code.length,FV (0,0)])/\w'.heap[g]?=some (xfu (xaT code).1)/\w.heap.size<=g)\/
  ((xaT code).2.1≠0/\e=.returned (.tuple #[.slice none 0 0,FV (xaT code).2])))
def xef (s:Int)(_:Nat)(x:QC):Int × Bool:=(IntKind.i64.wrap (s+x.slots),true)
def xbe (xs:List QC)(c:Int):Int:=upE xef xs (xs.length+1) c 0
theorem xiD {xs:List QC}(ho:xbY xs)(hb:xs.length*56<=140737488351232):∀ (n:Nat) (c s:Int),0<=s->s+6*n<=9000000000000000000->upE xef xs n c s=upE xe0 xs n c s
 | 0,c,s,h,_=>rfl
 | n+1,c,s,h,h2=>by
  unfold upE
  cases hx:xbx xs c with
  | none=>rfl
  | some x=>
   obtain⟨k,rfl,hk⟩:=xa7 hx;obtain⟨h3,h4⟩:=ho k x hk;have e:IntKind.i64.wrap (s+x.slots)=s+x.slots:=xat (by omega) (by omega)
   simp only[xef,xe0,if_true,e]
   exact xiD ho hb n x.super (s+x.slots) (by omega) (by omega)
theorem xfA {xs:List QC}(ho:xbY xs)(hb:xs.length*56<=140737488351232)(c:Int):xbe xs c=xaY xs c:=xiD ho hb _ c 0 (by omega) (by omega)
def SlRW {P:Nat->Prop}(w0:World)(cv:Value)(xs:List QC)(j:Nat)(s:Int)(w':World):Prop:=
 Below w0.heap.size w0 w'/\xai P w' cv xs/\w'.heap[w0.heap.size+1]?=some (.cells #[.int .i64 s] 3 (0,0))/\w'.cell? ⟨w0.heap.size,0,none⟩=some cv
def inR (n low high:Int):Bool:=decide (low<=n/\n<=high)
def xl0 (s:ByteArray):Bool:=s.toList.isEmpty
def rnB (x:QI):Bool:=if x.op=14 then xbr x.name else xl0 x.name
def raE (S n:Int)(m:QM)(x:QI):Bool:=
 if x.op=2 then inR x.a 0 (m.args-1)
 else if x.op=3\/x.op=11 then inR x.a 0 (m.temps-1)
 else if x.op=4\/x.op=12 then inR x.a 0 (IntKind.i64.wrap (S-1))
 else if x.op=15\/x.op=16 then inR x.a 0 ((m.code.length:Int)-1)
 else if x.op=14 then inR x.a 0 4
 else if x.op=5 then inR x.a (-1073741824) 1073741824
 else if x.op=13 then decide (x.a=0) || inR x.a 4 (n-1)
 else decide (x.a=0)
def xgb (S n:Int)(m:QM)(x:QI):Int:=
 if inR x.op 1 17=false then 1 else if raE S n m x=false then 3 else if rnB x=false\/x.b≠0\/x.c≠0 then 2 else 0
def wmE (n c:Int)(m:QM):Int:=
 if inR c 0 (n-1)=false then 6 else if xbr m.name=false then 7 else if inR m.args 0 4=false\/inR m.temps 0 6=false then 3 else if m.prim≠0 then 1 else if inR m.code.length 1 60=false then 5 else 0
def xlj (f:QI->Int):Nat->List QI->Option (Int × Int)
 | _,[]=>none
 | k,x :: r=>if f x≠0 then some (f x,(k:Int)) else xlj f (k+1) r
theorem xms {f:QI->Int}:∀ {l:List QI} {k j:Nat} {x:QI},l[j]?=some x->f x≠0->(∀ (i:Nat) y,i<j->l[i]?=some y->f y=0)->xlj f k l=some (f x,((k+j:Nat):Int))
 | [],k,j,x,h,_,_=>by simp at h
 | z :: r,k,0,x,h,hx,_=>by
  simp at h
  subst h
  simp[xlj,hx]
 | z :: r,k,j+1,x,h,hx,hp=>by
  have h0:f z=0:=hp 0 z (by omega) rfl
  unfold xlj;rw[if_neg (by simp[h0]),xms (l:=r) (k:=k+1) (j:=j) (by simpa using h) hx fun i y hi hy=>hp (i+1) y (by omega) (by simpa using hy)]
  congr 3
  omega
theorem xij {f:QI->Int}:∀ {l:List QI} {k:Nat},(∀ (i:Nat) y,l[i]?=some y->f y=0)->xlj f k l=none
 | [],k,_=>rfl
 | z :: r,k,hp=>by
  unfold xlj;rw[if_neg (by simp[hp 0 z rfl])]
  exact xij fun i y hy=>hp (i+1) y (by simpa using hy)
theorem xhY {f:QI->Int}:∀ {l:List QI} {k:Nat},xlj f k l=none->∀ x∈l,f x=0
 | [],k,_,x,hx=>by simp at hx
 | z :: r,k,h,x,hx=>by
  unfold xlj at h
  by_cases h0:f z=0
  ·rw[if_neg (by simp[h0])] at h
   rcases List.mem_cons.1 hx with rfl | hx
   ·exact h0
   ·exact xhY h x hx
  ·rw[if_pos h0] at h;cases h
def xd9 (S n c:Int)(m:QM):Int × Int:=
 if wmE n c m≠0 then (wmE n c m,0) else match xlj (xgb S n m) 0 m.code with
  | some f=>f
  | none=>(xaT m.code).2
theorem xeD {S n:Int}{m:QM}{x:QI}(h:xgb S n m x=0):x.op=14->0<=x.a/\x.a<=4:=fun h14=>by
 unfold xgb at h
 split at h
 ·cases h
 ·split at h
  ·cases h
  ·rename_i hra
   simp[raE,h14,inR] at hra
   exact hra
theorem xkn {n c:Int}{m:QM}(h:wmE n c m=0):(0<=m.args/\m.args<=4)/\(0<=m.temps/\m.temps<=6)/\1<=m.code.length/\m.code.length<=60/\0<=c/\c<=n-1:=by
 unfold wmE at h
 (repeat' split at h)<;>first | (exfalso;omega) | skip
 rename_i h1 h2 h3 h4 h5
 simp[inR] at h1 h3 h5
 omega
theorem xrB {w:World}{B:Nat}{x y:Value}{t:TypeId}(h:w.heap[B]?=some (.cells #[x,y] t (0,0))):(∀ q,w.cell? ⟨B,q,none⟩=(#[x,y]:Array Value)[q]?)/\(∀ o,w.frozen? ⟨B,o,none⟩=false):=
 ⟨fun q=>by rw[qzB h],fun o=>by unfold World.frozen?;simp[h]⟩
theorem xk8 {w:World}{B:Nat}{x y:Value}{t:TypeId}(h:w.heap[B]?=some (.cells #[x,y] t (0,0)))(u v:Value)(z:Obj):(((w.setCell ⟨B,0,none⟩ u).setCell ⟨B,1,none⟩ v).alloc z).cell? ⟨B,0,none⟩=some u/\(((w.setCell ⟨B,0,none⟩ u).setCell ⟨B,1,none⟩ v).alloc z).cell? ⟨B,1,none⟩=some v:=by
 have h2:((w.setCell ⟨B,0,none⟩ u).setCell ⟨B,1,none⟩ v).heap[B]?=some (.cells #[u,v] t (0,0)):=by rw[xag (xag h _) _];rfl
 have h3:=xad h2 (xak _ z)
 exact⟨by rw[qzB h3];rfl,by rw[qzB h3];rfl⟩
theorem xi9 {code:List QI}:∀ (g:Nat) (h:List Int) (q:List (Int × Int)),(xje code g h q).2.1=0->(xje code g h q).2=(0,0)
 | 0,h,q,_=>rfl
 | g+1,h,[],_=>rfl
 | g+1,h,p :: q,he=>by
  unfold xje at he ⊢
  cases hst:xc1 code h p with
  | inl f=>rw[hst] at he;exact absurd he (xgh hst)
  | inr r=>
   obtain⟨h',new⟩:=r;rw[hst] at he
   exact xi9 g h' (q++new) he
def xbo {α:Type}(f:Nat->α->Int):Nat->List α->Int
 | _,[]=>0
 | k,x :: r=>if f k x≠0 then f k x else xbo f (k+1) r
theorem xdt {α:Type}{f:Nat->α->Int}:∀ {l:List α} {k j:Nat} {x:α},l[j]?=some x->f (k+j) x≠0->(∀ i y,i<j->l[i]?=some y->f (k+i) y=0)->xbo f k l=f (k+j) x
 | a :: r,k,0,x,hx,h,_=>by
  simp at hx;subst hx
  simp only[Nat.add_zero] at h ⊢;unfold xbo;rw[if_pos h]
 | a :: r,k,j+1,x,hx,h,hn=>by
  have h0:=hn 0 a (by omega) rfl
  simp only[Nat.add_zero] at h0;unfold xbo;rw[if_neg (by simp[h0]),xdt (k:=k+1) (j:=j) (x:=x) (by simpa using hx) (by rw[show k+1+j=k+(j+1) by omega];exact h) fun i y hi hy=>by rw[show k+1+i=k+(i+1) by omega];exact hn (i+1) y (by omega) (by simpa using hy)]
  rw[show k+1+j=k+(j+1) by omega]
theorem xdL {α:Type}{f:Nat->α->Int}{l:List α}{j:Nat}{x:α}(hx:l[j]?=some x)(h:f j x≠0)(hn:∀ i y,i<j->l[i]?=some y->f i y=0):xbo f 0 l=f j x:=by
 have:=xdt (f:=f) (k:=0) (j:=j) hx (by simpa using h) (fun i y hi hy=>by simpa using hn i y hi hy)
 simpa using this
theorem xdx {α:Type}{f:Nat->α->Int}:∀ {l:List α} {k:Nat},(∀ i y,l[i]?=some y->f (k+i) y=0)->xbo f k l=0
 | [],_,_=>rfl
 | a :: r,k,h=>by
  have h0:=h 0 a rfl;simp only[Nat.add_zero] at h0;unfold xbo;rw[if_neg (by simp[h0])]
  exact xdx fun i y hy=>by rw[show k+1+i=k+(i+1) by omega];exact h (i+1) y (by simpa using hy)
theorem xcL {α:Type}{f:Nat->α->Int}{l:List α}(h:∀ i y,l[i]?=some y->f i y=0):xbo f 0 l=0:=xdx fun i y hy=>by simpa using h i y hy
theorem xdM {α:Type}{f:Nat->α->Int}:∀ {l:List α} {k:Nat},xbo f k l=0->∀ i y,l[i]?=some y->f (k+i) y=0
 | a :: r,k,h,i,y,hy=>by
  unfold xbo at h
  split at h
  ·rename_i h1;exact absurd h h1
  ·rename_i h1
   cases i with
   | zero=>simp at hy;subst hy;simpa using h1
   | succ i=>rw[show k+(i+1)=k+1+i by omega];exact xdM h i y (by simpa using hy)
theorem xbM {α:Type}{f:Nat->α->Int}{l:List α}(h:xbo f 0 l=0):∀ i y,l[i]?=some y->f i y=0:=fun i y hy=>by
 have:=xdM h i y hy
 simpa using this
def xbW (n c:Int):Bool:=decide (c=0\/4<=c/\c<n)
def xnO (xs:List QC)(k:Nat)(name:ByteArray):Bool:=(xs.take k).any fun d=>eqN d.name name
theorem xoc {xs:List QC}{k i:Nat}{name:ByteArray}{d:QC}(hi:i<k)(hd:xs[i]?=some d)(h:eqN d.name name=true):xnO xs k name=true:=by
 unfold xnO;rw[List.any_eq_true]
 exact⟨d,List.mem_of_getElem? (i:=i) (by rw[List.getElem?_take];simp[hi,hd]),h⟩
theorem xqy {xs:List QC}{k:Nat}{name:ByteArray}(h:∀ i d,i<k->xs[i]?=some d->eqN d.name name=false):xnO xs k name=false:=by
 unfold xnO;rw[List.any_eq_false];intro d hd;obtain⟨i,hi⟩:=List.getElem?_of_mem hd;rw[List.getElem?_take] at hi
 split at hi
 ·rename_i hk;have:=h i d hk hi
  simp[this]
 ·cases hi
def rcE (xs:List QC)(k:Nat)(x:QC):Int:=
 if xbr x.name=false then 7 else
 match xio[k]? with
 | some y=>if eqN x.name y.name=false then 7 else if xnO xs k x.name=true then 7 else if x.super≠y.super then 3 else if x.slots<0\/0<x.slots then 3 else 0
 | none=>if xnO xs k x.name=true then 7 else if xbW k x.super=false then 3 else if x.slots<0\/6<x.slots then 3 else 0
def xgQ (k:Nat)(m:QM):Bool:=xgJ.any fun p=>decide (k=3) && eqN p.name m.name && decide (p.prim=m.prim) && decide (m.args=1) && decide (m.temps=0) && decide (m.code.length=0)
def xeZ (ms:List QM)(i:Nat)(m:QM):Bool:=match i with
 | 0=>true
 | i+1=>match ms[i]? with
  | some p=>ltN p.name m.name
  | none=>true
def rmE (X:QW)(k:Nat)(ms:List QM)(i:Nat)(m:QM):Int:=
 if xeZ ms i m=false then 7 else if xgQ k m=true then 0 else (xd9 (xbe X.cz k) X.cz.length k m).1
def rkE (X:QW)(k:Nat)(x:QC):Int:=if 6<xbe X.cz k then 3 else if 8<x.mz.length then 5 else xbo (rmE X k x.mz) 0 x.mz
def xcu (k n h:Int):Int:=
 if k<0\/4<k then 1
 else if k<3 then (if n=0 then 0 else 2)
 else if k=3 then (if n < -1073741824\/1073741824<n then 3 else 0)
 else (if n<0\/h<=n then 6 else 0)
def xax (h:Int)(v:QV):Int:=xcu v.k v.n h
def roE (X:QW)(_:Nat)(o:QO):Int:=
 if xbW X.cz.length o.cls=false\/(o.slots.length:Int)≠xbe X.cz o.cls then 8 else xbo (fun _ v=>xax X.heap.length v) 0 o.slots
def xaH (X:QW):Int:=
 if X.cz.length<4\/12<X.cz.length\/60<X.heap.length then 5
 else if X.ez<0\/1073741824<X.ez then 3
 else if xbo (rcE X.cz) 0 X.cz≠0 then xbo (rcE X.cz) 0 X.cz
 else if xbo (rkE X) 0 X.cz≠0 then xbo (rkE X) 0 X.cz
 else xbo (roE X) 0 X.heap
structure SizeOk (X:QW):Prop where
 few:4<=X.cz.length
 many:X.cz.length<=12
 heap:X.heap.length<=60
 ep0:0<=X.ez
 ep1:X.ez<=1073741824
def ClsOk (X:QW)(j:Nat):Prop:=∀ i x,i<j->X.cz[i]?=some x->rcE X.cz i x=0
def xdv (X:QW)(j:Nat):Prop:=∀ i x,i<j->X.cz[i]?=some x->rkE X i x=0
def xiW (X:QW)(j:Nat):Prop:=∀ i x,i<j->X.heap[i]?=some x->roE X i x=0
theorem xfc {X:QW}(h:X.cz.length<4\/12<X.cz.length\/60<X.heap.length):xaH X=5:=by unfold xaH;rw[if_pos h]
theorem xfZ {X:QW}(h:¬ (X.cz.length<4\/12<X.cz.length\/60<X.heap.length))(h2:X.ez<0\/1073741824<X.ez):xaH X=3:=by unfold xaH;rw[if_neg h,if_pos h2]
theorem xdk {X:QW}(h:SizeOk X):xaH X=if xbo (rcE X.cz) 0 X.cz≠0 then xbo (rcE X.cz) 0 X.cz else if xbo (rkE X) 0 X.cz≠0 then xbo (rkE X) 0 X.cz else xbo (roE X) 0 X.heap:=by
 obtain⟨h1,h2,h3,h4,h5⟩:=h;unfold xaH;rw[if_neg (by omega),if_neg (by omega)]
theorem xhz {X:QW}(h:SizeOk X){j:Nat}{x:QC}(hx:X.cz[j]?=some x)(hj:ClsOk X j){v:Int}(e:rcE X.cz j x=v)(hv:v≠0):xaH X=v:=by
 subst e;have:=xdL hx hv hj;rw[xdk h,if_pos (by rw[this];exact hv),this]
theorem xgz {X:QW}(h:ClsOk X X.cz.length):xbo (rcE X.cz) 0 X.cz=0:=xcL fun i y hy=>h i y (xae hy) hy
theorem xlL {X:QW}(h:SizeOk X)(h1:ClsOk X X.cz.length){j:Nat}{x:QC}(hx:X.cz[j]?=some x)(hj:xdv X j){v:Int}(e:rkE X j x=v)(hv:v≠0):xaH X=v:=by
 subst e;have:=xdL hx hv hj;rw[xdk h,if_neg (by rw[xgz h1];simp),if_pos (by rw[this];exact hv),this]
theorem xgX {X:QW}(h:xdv X X.cz.length):xbo (rkE X) 0 X.cz=0:=xcL fun i y hy=>h i y (xae hy) hy
theorem xqN {X:QW}(h:SizeOk X)(h1:ClsOk X X.cz.length){j:Nat}{x:QC}(hx:X.cz[j]?=some x)(hj:xdv X j)(s:¬ 6<xbe X.cz j)(n:¬ 8<x.mz.length){i:Nat}{m:QM}(hm:x.mz[i]?=some m)(hi:∀ k y,k<i->x.mz[k]?=some y->rmE X j x.mz k y=0){v:Int}(e:rmE X j x.mz i m=v)(hv:v≠0):xaH X=v:=by
 refine xlL h h1 hx hj ?_ hv;subst e;unfold rkE;rw[if_neg s,if_neg n,xdL hm hv hi]
theorem xmz {X:QW}(h:SizeOk X)(h1:ClsOk X X.cz.length)(h2:xdv X X.cz.length){j:Nat}{x:QO}(hx:X.heap[j]?=some x)(hj:xiW X j){v:Int}(e:roE X j x=v)(hv:v≠0):xaH X=v:=by
 subst e;have:=xdL hx hv hj;rw[xdk h,if_neg (by rw[xgz h1];simp),if_neg (by rw[xgX h2];simp),this]
theorem xpH {X:QW}(h:SizeOk X)(h1:ClsOk X X.cz.length)(h2:xdv X X.cz.length){j:Nat}{x:QO}(hx:X.heap[j]?=some x)(hj:xiW X j)(f:¬ (xbW X.cz.length x.cls=false\/(x.slots.length:Int)≠xbe X.cz x.cls)){i:Nat}{y:QV}(hy:x.slots[i]?=some y)(hi:∀ k z,k<i->x.slots[k]?=some z->xax X.heap.length z=0)(hv:xax X.heap.length y≠0):xaH X=xax X.heap.length y:=by
 refine xmz h h1 h2 hx hj ?_ hv;unfold roE;rw[if_neg f]
 exact xdL (f:=fun _ v=>xax X.heap.length v) hy hv hi
theorem xoO {X:QW}(h:SizeOk X)(h1:ClsOk X X.cz.length)(h2:xdv X X.cz.length)(h3:xiW X X.heap.length):xaH X=0:=by
 rw[xdk h,if_neg (by rw[xgz h1];simp),if_neg (by rw[xgX h2];simp)]
 exact xcL fun i y hy=>h3 i y (xae hy) hy
theorem xcl {X:QW}(h:xaH X=0):SizeOk X/\ClsOk X X.cz.length/\xdv X X.cz.length/\xiW X X.heap.length:=by
 unfold xaH at h
 split at h
 ·cases h
 rename_i a1
 split at h
 ·cases h
 rename_i a2
 split at h
 ·rename_i a3;exact absurd h a3
 rename_i a3
 split at h
 ·rename_i a4;exact absurd h a4
 rename_i a4;have b3:=xbM (Decidable.of_not_not a3);have b4:=xbM (Decidable.of_not_not a4);have b5:=xbM h
 exact⟨⟨by omega,by omega,by omega,by omega,by omega⟩,fun i x _ hx=>b3 i x hx,fun i x _ hx=>b4 i x hx,fun i x _ hx=>b5 i x hx⟩
theorem xm4 {xs:List QC}{k:Nat}{x:QC}(h:rcE xs k x=0):0<=x.slots/\x.slots<=6:=by
 unfold rcE at h
 split at h
 ·cases h
 split at h<;>(repeat' (split at h))<;>first | (cases h;done) | omega
theorem ClsOk.slots {X:QW}(h:ClsOk X X.cz.length):xbY X.cz:=fun i x hx=>xm4 (h i x (xae hx) hx)
abbrev xaU:QV:=⟨0,0⟩
def xaM (l:List QV)(n:Int):QV:=if n<0 then xaU else l[n.toNat]?.getD xaU
def xaW (l:List QV)(n:Int)(v:QV):List QV:=if n<0 then l else l.set n.toNat v
def xaQ (l:List QV)(n:Int):QV:=xaM l ((l.length:Int)-1-n)
def xaG (n:Int):List QV:=List.replicate (min (max n 0) 40).toNat xaU
def xbp (l:List QV)(n:Int):Nat:=l.length-(max n 0).toNat
def xd2 (h:List QO)(v:QV):Option QO:=if v.k=4/\0<=v.n then h[v.n.toNat]? else none
def xas (h:List QO)(v:QV):Int:=if v.k=0 then 1 else if v.k=1\/v.k=2 then 2 else if v.k=3 then 3 else ((xd2 h v).map QO.cls).getD 0
def xcF (h:List QO)(v:QV)(n:Int):QV:=((xd2 h v).map fun o=>xaM o.slots n).getD xaU
def xaX (h:List QO)(v:QV)(n:Int)(x:QV):List QO:=match xd2 h v with
 | none=>h
 | some o=>h.set v.n.toNat ⟨o.cls,xaW o.slots n x⟩
def xbR (p:Int)(a b:QV):QV × Int:=
 if a.k≠3\/b.k≠3 then (xaU,12)
 else if p=1 then (⟨3,(a.n+b.n).tmod 1073741825⟩,0)
 else if p=2 then (⟨3,(a.n-b.n).tmod 1073741825⟩,0)
 else if p=3 then (⟨3,(a.n*b.n).tmod 1073741825⟩,0)
 else if p=4 then (⟨if a.n<b.n then 2 else 1,0⟩,0)
 else if p=5 then (⟨if a.n=b.n then 2 else 1,0⟩,0)
 else (xaU,1)
structure Mc (σ:Type) where
 heap:List QO
 sz_:Int
 tz:Int
 st:σ
structure Fr where
 cls:Int
 meth:QM
 self:QV
 args:List QV
 temps:List QV
 stack:List QV
 code:List QI
 pc:Int
 fast:Bool
structure Env (σ:Type) where
 cz:List QC
 fuel:Int
 look:σ->QS->Int->ByteArray->σ × (Int × Int)
 quick:Int->Int->Option (List QI × Int)
section
variable {σ:Type}
abbrev Ent (σ:Type):=Mc σ->Int->Int->QV->List QV->Mc σ × QV × Int
def Fr.push (f:Fr)(v:QV):Fr:={ f with stack:=f.stack++[v] }
def Fr.pop (f:Fr):Fr:={ f with stack:=f.stack.dropLast }
def Fr.top (f:Fr):QV:=xaQ f.stack 0
def Fr.site (f:Fr)(at':Int)(x:QI):QS:=⟨f.cls,f.meth.name,if f.fast then x.c else at'⟩
def Fr.leave (f:Fr)(at':Int):Fr:={ f with code:=f.meth.code,temps:=(xaG f.meth.temps).zipIdx.map (fun p=>(f.temps[p.2]?).getD xaU),pc:=at',fast:=false }
def xao (h:List QO)(f:Fr)(x:QI):Option QV:=
 if x.op=1 then some f.self else if x.op=2 then some (xaM f.args x.a) else if x.op=3 then some (xaM f.temps x.a) else if x.op=4 then some (xcF h f.self x.a)
 else if x.op=5 then some ⟨3,x.a⟩ else if x.op=6 then some xaU else if x.op=7 then some ⟨1,0⟩ else if x.op=8 then some ⟨2,0⟩ else none
def xaV (m:Mc σ)(f:Fr)(at' tg:Int):Mc σ × Fr × Int:=
 let m':Mc σ:=if tg<=at' then { m with tz:=m.tz+1 } else m
 if 300<m'.tz then (m',f,16) else (m',{ f with pc:=tg },0)
def xau (E:Env σ)(d:Nat)(m:Mc σ):Mc σ × Int:=if E.fuel<=m.sz_ then (m,13) else if d=0 then (m,14) else ({ m with sz_:=m.sz_+1 },0)
def xbD (ent:Ent σ)(E:Env σ)(m:Mc σ)(f:Fr)(at':Int)(x:QI):Mc σ × Fr × Int:=
 let k:=xbp f.stack x.a
 let args:=f.stack.drop k
 let self:=xaQ (f.stack.take k) 0
 let l:=E.look m.st (f.site at' x) (xas m.heap self) x.name
 let r:=ent { m with st:=l.1 } l.2.1 l.2.2 self args
 if r.2.2≠0 then (r.1,f,r.2.2) else (r.1,{ f with stack:=(f.stack.take k).dropLast++[r.2.1] },0)
def xbV (E:Env σ)(m:Mc σ)(f:Fr)(c:Int):Mc σ × Fr × Int:=
 if 60<=m.heap.length\/2147483647<xaY E.cz c then (m,f,15)
 else ({ m with heap:=m.heap++[⟨c,List.replicate (xaY E.cz c).toNat xaU⟩] },f.push ⟨4,m.heap.length⟩,0)
def xbz (m:Mc σ)(f:Fr)(at' tg:Int):Mc σ × Fr × Int:=if f.top.k=2 then (m,f.pop,0) else if f.top.k=1 then xaV m f.pop at' tg else (m,f,11)
def xbQ (E:Env σ)(d:Nat)(m:Mc σ)(f:Fr)(x:QI):Mc σ × Fr × Int:=
 if f.fast=false then (m,f,1)
 else if x.op=18 then (m,if xas m.heap (xaQ f.stack x.b)=x.a then f else f.leave x.c,0)
 else if x.op=19 then (m,f.push (xcF m.heap (xaM f.temps x.a) x.b),0)
 else if x.op=20 then ({ m with heap:=xaX m.heap (xaM f.temps x.a) x.b f.top },f.pop,0)
 else if x.op=21 then ((xau E d m).1,f,(xau E d m).2)
 else (m,f,1)
def xaj (ent:Ent σ)(E:Env σ)(d:Nat)(m:Mc σ)(f:Fr)(at':Int)(x:QI):Mc σ × Fr × Int:=
 match xao m.heap f x with
 | some v=>(m,f.push v,0)
 | none=>
  if x.op=9 then (m,f.pop,0)
  else if x.op=10 then (m,f.push f.top,0)
  else if x.op=11 then (m,{ f.pop with temps:=xaW f.temps x.a f.top },0)
  else if x.op=12 then ({ m with heap:=xaX m.heap f.self x.a f.top },f.pop,0)
  else if x.op=13 then xbV E m f x.a
  else if x.op=14 then xbD ent E m f at' x
  else if x.op=15 then xaV m f at' x.a
  else if x.op=16 then xbz m f at' x.a
  else xbQ E d m f x
def xb7 (ent:Ent σ)(E:Env σ)(d:Nat):Nat->Mc σ->Fr->Mc σ × QV × Int
 | 0,m,_=>(m,xaU,9)
 | g+1,m,f=>match (if f.pc<0 then none else f.code[f.pc.toNat]?) with
  | none=>(m,xaU,9)
  | some x=>
   if x.op=17 then (m,f.top,0)
   else
    let r:=xaj ent E d m { f with pc:=f.pc+1 } f.pc x
    if r.2.2≠0 then (r.1,xaU,r.2.2) else xb7 ent E d g r.1 r.2.1
def xaI (xs:List QC)(c n:Int):Option QM:=(xbx xs c).bind fun x=>if 0<=n then x.mz[n.toNat]? else none
def xaK (E:Env σ)(c n:Int)(mt:QM)(self:QV)(args:List QV):Fr:=match E.quick c n with
 | none=>⟨c,mt,self,args,xaG mt.temps,[],mt.code,0,false⟩
 | some q=>⟨c,mt,self,args,xaG q.2,[],q.1,0,true⟩
def xf4 (f:Fr):Nat:=700*(f.code.length+f.meth.code.length+1)
def xbc (E:Env σ)(d:Nat)(body:Mc σ->Fr->Mc σ × QV × Int):Ent σ:=fun m c n self args=>match xaI E.cz c n with
 | none=>(m,xaU,10)
 | some mt=>
  if mt.args≠args.length then (m,xaU,8)
  else if mt.prim≠0 then (if E.fuel<=m.sz_ then (m,xaU,13) else ({ m with sz_:=m.sz_+1 },xbR mt.prim self (xaM args 0)))
  else if (xau E d m).2≠0 then (m,xaU,(xau E d m).2) else body (xau E d m).1 (xaK E c n mt self args)
def xa4 (E:Env σ):Nat->Ent σ
 | 0=>xbc E 0 fun m _=>(m,xaU,14)
 | d+1=>xbc E (d+1) fun m f=>xb7 (xa4 E d) E d (xf4 f) m f
theorem xe9 (m:Mc σ)(f:Fr)(a b:Int):(xaV m f a b).1.sz_=m.sz_:=by
 unfold xaV
 by_cases h:b<=a
 ·simp only[h,if_true];split<;>rfl
 ·simp only[h,if_false];split<;>rfl
theorem xhp (E:Env σ)(m:Mc σ)(f:Fr)(c:Int):(xbV E m f c).1.sz_=m.sz_:=by
 unfold xbV;split<;>rfl
theorem xhe (m:Mc σ)(f:Fr)(a b:Int):(xbz m f a b).1.sz_=m.sz_:=by
 unfold xbz
 split
 ·rfl
 ·split
  ·exact xe9 _ _ _ _
  ·rfl
end
def xam:List QV->List Value
 | []=>[]
 | v :: r=>.int .i64 v.k :: .int .i64 v.n :: xam r
theorem xbA:∀ q,(xam q).length=q.length*2
 | []=>rfl
 | p :: q=>by simp[xam,xbA q];omega
theorem xcA:∀ q r,xam (q++r)=xam q++xam r
 | [],r=>rfl
 | p :: q,r=>by simp[xam,xcA q r]
theorem xbZ:∀ {q:List QV} {i:Nat} {x:QV},q[i]?=some x->(xam q)[i*2]?=some (.int .i64 x.k)/\(xam q)[i*2+1]?=some (.int .i64 x.n)
 | [],i,x,h=>by simp at h
 | p :: q,0,x,h=>by simp at h;subst h;exact⟨rfl,rfl⟩
 | p :: q,i+1,x,h=>by
  have:=xbZ (q:=q) (i:=i) (x:=x) (by simpa using h)
  rw[show (i+1)*2=i*2+1+1 by omega]
  exact this
theorem xfk:∀ (q:List QV) (i:Nat) (x:QV),((xam q).set (i*2) (.int .i64 x.k)).set (i*2+1) (.int .i64 x.n)=xam (q.set i x)
 | [],i,x=>by simp[xam]
 | p :: q,0,x=>by simp[xam]
 | p :: q,i+1,x=>by
  rw[show (i+1)*2=i*2+1+1 by omega]
  simp only[xam,List.set_cons_succ];rw[xfk q i x]
theorem xeo:∀ (q:List QV) (n:Nat),(xam q).take (n*2)=xam (q.take n)
 | [],n=>by simp[xam]
 | p :: q,0=>by simp[xam]
 | p :: q,n+1=>by
  rw[show (n+1)*2=n*2+1+1 by omega]
  simp only[xam,List.take_succ_cons];rw[xeo q n]
theorem xgd:∀ (q:List QV) (n:Nat),(xam q).drop (n*2)=xam (q.drop n)
 | [],n=>by simp[xam]
 | p :: q,0=>by simp[xam]
 | p :: q,n+1=>by
  rw[show (n+1)*2=n*2+1+1 by omega]
  simp only[xam,List.drop_succ_cons]
  exact xgd q n
theorem xhf:∀ n,xam (List.replicate n xaU)=List.replicate (n*2) (.int .i64 0)
 | 0=>rfl
 | n+1=>by
  rw[show (n+1)*2=n*2+1+1 by omega]
  simp only[List.replicate_succ,xam];rw[xhf n]
theorem xg9:∀ (q:List QV),∀ u∈xam q,u.oneCell'=true
 | [],u,h=>by simp[xam] at h
 | p :: q,u,h=>by
  simp only[xam,List.mem_cons] at h
  rcases h with rfl | rfl | h
  ·rfl
  ·rfl
  ·exact xg9 q u h
theorem xcy {E:Unit}:∀ {cs:List Value} {xs:List QV} {P:Nat->Prop} {w:World},Cells xpo 2 P w cs xs->cs=xam xs:=fun {cs xs P w} h=>by
 obtain⟨h1,h2⟩:=h
 apply List.ext_getElem?
 intro j
 by_cases hj:j<xs.length*2
 ·have hi:j / 2<xs.length:=by omega
  have hx:xs[j / 2]?=some xs[j / 2]:=by simp[hi]
  obtain⟨e1,e2⟩:=h2 _ _ hx;obtain⟨d1,d2⟩:=xbZ hx
  rcases Nat.mod_two_eq_zero_or_one j with hm | hm
  ·have:j=j / 2*2:=by omega
   rw[this,d1];simpa using e1
  ·have:j=j / 2*2+1:=by omega
   rw[this,d2];simpa using e2
 ·rw[List.getElem?_eq_none (by omega),List.getElem?_eq_none (by rw[xbA];omega)]
structure Kp (S:Nat->Prop)(T:Nat->Nat)(w w':World):Prop where
 os:w'.os=w.os
 tape:w'.tape=w.tape
 output:w'.output=w.output
 size:w.heap.size<=w'.heap.size
 blk:∀ b,b<w.heap.size->¬ S (T b)->w'.heap[b]?=w.heap[b]?
def Ext (T T':Nat->Nat)(w:World):Prop:=∀ b,b<w.heap.size->T' b=T b
theorem Ext.refl (T:Nat->Nat)(w:World):Ext T T w:=fun _ _=>rfl
theorem Ext.trans {T T' T'':Nat->Nat}{w w':World}(h:Ext T T' w)(hs:w.heap.size<=w'.heap.size)(k:Ext T' T'' w'):Ext T T'' w:=fun b hb=>(k b (by omega)).trans (h b hb)
theorem Kp.refl (S:Nat->Prop)(T:Nat->Nat)(w:World):Kp S T w w:=⟨rfl,rfl,rfl,qzC _,fun _ _ _=>rfl⟩
theorem Kp.of_below {S:Nat->Prop}{T:Nat->Nat}{w w':World}(h:Below w.heap.size w w'):Kp S T w w':=⟨h.os,h.tape,h.output,h.size,fun b hb _=>h.block b hb⟩
theorem Kp.trans {S:Nat->Prop}{T T':Nat->Nat}{w w' w'':World}(h:Kp S T w w')(e:Ext T T' w)(k:Kp S T' w' w''):Kp S T w w'':=
 ⟨k.os.trans h.os,k.tape.trans h.tape,k.output.trans h.output,qzD h.size k.size,fun b hb hs=>(k.blk b (qzE hb h.size) (by rw[e b hb];exact hs)).trans (h.blk b hb hs)⟩
theorem Kp.on {S:Nat->Prop}{T:Nat->Nat}{w w' w'':World}(h:Kp S T w w')(k:Below w'.heap.size w' w''):Kp S T w w'':=h.trans (.refl _ _) (.of_below k)
theorem Kp.drew {S:Nat->Prop}{T:Nat->Nat}{w w':World}(h:Kp S T w w'):Kp S T w w'.drew:=⟨h.os,h.tape,h.output,h.size,h.blk⟩
theorem Kp.mono {S S':Nat->Prop}{T:Nat->Nat}{w w':World}(h:Kp S T w w')(hs:∀ t,S t->S' t):Kp S' T w w':=⟨h.os,h.tape,h.output,h.size,fun b hb n=>h.blk b hb fun k=>n (hs _ k)⟩
theorem Kp.tags {S:Nat->Prop}{T T':Nat->Nat}{w w':World}(h:Kp S T w w')(e:Ext T T' w):Kp S T' w w':=⟨h.os,h.tape,h.output,h.size,fun b hb n=>h.blk b hb (by rw[← e b hb];exact n)⟩
theorem Kp.below {S:Nat->Prop}{T:Nat->Nat}{w w':World}(h:Kp S T w w'){lo:Nat}(hl:∀ b,b<lo->¬ S (T b))(hs:lo<=w.heap.size):Below lo w w':=⟨h.os,h.tape,h.output,h.size,fun b hb=>h.blk b (by omega) (hl b hb)⟩
theorem Kp.set {S:Nat->Prop}{T:Nat->Nat}{w w':World}(h:Kp S T w w'){b:Nat}(hb:b<w.heap.size->S (T b))(o:Nat)(v:Value):Kp S T w (w'.setCell ⟨b,o,none⟩ v):=by
 have k:=qzL w'.heap.size w';have hd:Below 0 w' (w'.setCell ⟨b,o,none⟩ v):=(qzL 0 w').setCell (Nat.zero_le _) _;refine⟨hd.os.trans h.os,hd.tape.trans h.tape,hd.output.trans h.output,qzD h.size hd.size,fun c hc n=>?_⟩
 rw[xac (fun e=>n (by rw[e];exact hb (by omega)))]
 exact h.blk c hc n
theorem Kp.held {S:Nat->Prop}{T:Nat->Nat}{w w':World}(h:Kp S T w w'){b:Nat}{o:Obj}(hb:w.heap[b]?=some o)(hs:¬ S (T b)):w'.heap[b]?=some o:=by
 rw[h.blk b (xal hb) hs];exact hb
theorem Kp.cell {S:Nat->Prop}{T:Nat->Nat}{w w':World}(h:Kp S T w w'){b o:Nat}{v:Value}(hb:w.cell? ⟨b,o,none⟩=some v)(hs:¬ S (T b)):w'.cell? ⟨b,o,none⟩=some v:=by
 have hl:=World.block_lt_of_cell? w ⟨b,o,none⟩ hb;unfold World.cell? at hb ⊢;rw[h.blk b hl hs]
 exact hb
abbrev Fx (T:Nat->Nat)(w:World):Nat->Prop:=fun b=>b<w.heap.size/\T b=0
abbrev Hx (T:Nat->Nat)(w:World):Nat->Prop:=fun b=>b<w.heap.size/\T b=2
theorem IsRow.fx {α:Type}{E:Lay α}{sz bytes:Nat}{t:Nat}{T T':Nat->Nat}{S:Nat->Prop}{w w':World}{v:Value}{xs:List α}(h:IsRow E sz bytes (fun b=>b<w.heap.size/\T b=t) w v xs)(G:Good E sz)(e:Ext T T' w)(k:Kp S T w w')(h0:¬ S t):IsRow E sz bytes (fun b=>b<w'.heap.size/\T' b=t) w' v xs:=
 h.keep G (Keeps.of_block fun b hb hl=>k.blk b hl (by rw[hb.2];exact h0)) fun b hb=>⟨qzE hb.1 k.size,by rw[e b hb.1];exact hb.2⟩
def xaF (T:Nat->Nat)(w:World)(t:Nat):Nat->Nat:=fun b=>if b<w.heap.size then T b else t
theorem xaq (T:Nat->Nat)(w:World)(t:Nat):Ext T (xaF T w t) w:=fun b hb=>by simp[xaF,hb]
theorem xaJ {T:Nat->Nat}{w:World}{t b:Nat}(h:w.heap.size<=b):xaF T w t b=t:=by simp[xaF];omega
def xjd (T:Nat->Nat)(g t:Nat):Nat->Nat:=fun b=>if b=g then t else T b
theorem xez {T:Nat->Nat}{w:World}{g t:Nat}(h:w.heap.size<=g):Ext T (xjd T g t) w:=fun b hb=>by simp[xjd];omega
theorem xdI (T:Nat->Nat)(g t:Nat):xjd T g t g=t:=by simp[xjd]
structure HeapSt (T:Nat->Nat)(w:World)(hv:Value)(g:Nat)(s:Nat->Nat)(xs:List QO):Prop where
 form:∃ cap,hv=.slice (some ⟨g,0,none⟩) xs.length cap/\xs.length<=cap/\cap<=maxLen
 len:xs.length*32<=140737488351232
 there:g<w.heap.size
 tg:T g=2
 obj:∀ i x,xs[i]?=some x->w.cell? ⟨g,i*2,none⟩=some (.int .i64 x.cls)/\w.cell? ⟨g,i*2+1,none⟩=some (.slice (some ⟨s i,0,none⟩) x.slots.length x.slots.length)/\w.heap[s i]?=some (.cells (xam x.slots).toArray 27 (0,0))/\T (s i)=2/\s i≠g/\x.slots.length*16<=140737488351232
 inj:∀ i j,i<xs.length->j<xs.length->s i=s j->i=j
theorem xfz {w:World}{g:Nat}{vs:List QV}{t:TypeId}(h:w.heap[g]?=some (.cells (xam vs).toArray t (0,0))){i:Nat}{x:QV}(hx:vs[i]?=some x):w.cell? ⟨g,i*2,none⟩=some (.int .i64 x.k)/\w.cell? ⟨g,i*2+1,none⟩=some (.int .i64 x.n):=by
 rw[qzB h,qzB h];have:=xbZ hx
 simpa using this
theorem xhM {w:World}{g:Nat}{vs:List QV}{t:TypeId}{P:Nat->Prop}(h:w.heap[g]?=some (.cells (xam vs).toArray t (0,0)))(hP:P g)(hb:vs.length*16<=140737488351232):xaO P w (.slice (some ⟨g,0,none⟩) vs.length vs.length) vs:=by
 refine⟨_,_,rfl,qzC _,by unfold maxLen;omega,hb,fun i x hx=>⟨g,0,rfl,hP,?_⟩⟩
 have:=xfz h hx;simp only[Nat.zero_add]
 exact⟨by simpa using this.1,this.2⟩
theorem HeapSt.heap {T:Nat->Nat}{w:World}{hv:Value}{g:Nat}{s:Nat->Nat}{xs:List QO}(h:HeapSt T w hv g s xs):xaD (Hx T w) w hv xs:=by
 obtain⟨cap,rfl,h1,h2⟩:=h.form;refine⟨_,_,rfl,h1,h2,h.len,fun i x hx=>⟨g,0,rfl,⟨h.there,h.tg⟩,?_⟩⟩
 obtain⟨e1,e2,e3,e4,e5,e6⟩:=h.obj i x hx;simp only[Nat.zero_add]
 exact⟨by simpa using e1,_,e2,xhM e3 ⟨xal e3,e4⟩ e6⟩
theorem HeapSt.keep {T T':Nat->Nat}{S:Nat->Prop}{w w':World}{hv:Value}{g:Nat}{s:Nat->Nat}{xs:List QO}(h:HeapSt T w hv g s xs)(e:Ext T T' w)(k:Kp S T w w')(h2:¬ S 2):HeapSt T' w' hv g s xs:=by
 refine⟨h.form,h.len,qzE h.there k.size,by rw[e g h.there];exact h.tg,fun i x hx=>?_,h.inj⟩
 obtain⟨e1,e2,e3,e4,e5,e6⟩:=h.obj i x hx
 exact⟨k.cell e1 (by rw[h.tg];exact h2),k.cell e2 (by rw[h.tg];exact h2),k.held e3 (by rw[e4];exact h2),by rw[e _ (xal e3)];exact e4,e5,e6⟩
theorem xkM {w:World}{g:Nat}{vs:List QV}{t:TypeId}(h:w.heap[g]?=some (.cells (xam vs).toArray t (0,0)))(j:Nat)(v:QV):((w.setCell ⟨g,j*2,none⟩ (.int .i64 v.k)).setCell ⟨g,j*2+1,none⟩ (.int .i64 v.n)).heap[g]?=some (.cells (xam (vs.set j v)).toArray t (0,0)):=by
 rw[xag (xag h _),← xfk]
 simp
abbrev VV (v:QV):Value:=.agg #[.int .i64 v.k,.int .i64 v.n]
theorem xc7 {P:Nat->Prop}(l:List QV)(lv:Value)(n:Int)(w:World)(h:xaO P w lv l):Calls Try.prog 100 #[lv,.int .i64 n] w fun e w'=>e=.returned (VV (xaM l n))/\Below w.heap.size w w':=by
 obtain⟨ad,cap,rfl,hl,hcap,hby,hrow⟩:=h;unfold maxLen at hcap
 by_cases hn:n<0
 ·have HE:Hid (xaM l n=xaU):=by show _=_;unfold xaM;rw[if_pos hn]
  have hn':decide (n<0)=true:=by simpa using hn
  go_enter Try.func100,Try.ntmps100;go_wp2;refine qzK (v:=VV xaU) ?_ rfl ⟨by rw[HE.out],xak _ _⟩
  simp[results,Try.results100,go_sem]
 ·have hn':decide (n<0)=false:=by simpa using hn
  obtain⟨k,rfl⟩:∃ k:Nat,n=k:=⟨n.toNat,by omega⟩
  by_cases hk:k<l.length
  ·have hx:l[k]?=some l[k]:=by simp[hk]
   have HE:Hid (xaM l k=l[k]):=by show _=_;unfold xaM;rw[if_neg hn];simp[hk]
   generalize l[k]=x at *;obtain⟨b,o,rfl,-,h0,h1⟩:=hrow k x hx;simp only[Nat.add_zero] at h0;have c0:=qzA (xak w (.cells #[.int .i64 0,.int .i64 0] 27)) h0;have c1:=qzA (xak w (.cells #[.int .i64 0,.int .i64 0] 27)) h1;have hk1:(k:Int)<(l.length:Int):=by omega
   have hk2:¬ ((l.length:Int)<=(k:Int)):=by omega
   go_enter Try.func100,Try.ntmps100;go_wp2;refine qzK (v:=VV x) ?_ rfl ⟨by rw[HE.out],xak _ _⟩
   simp[results,Try.results100,go_sem]
  ·have HE:Hid (xaM l k=xaU):=by show _=_;unfold xaM;rw[if_neg hn];simp[hk]
   have hk2:((l.length:Int)<=(k:Int)):=by omega
   go_enter Try.func100,Try.ntmps100;go_wp2;refine qzK (v:=VV xaU) ?_ rfl ⟨by rw[HE.out],xak _ _⟩
   simp[results,Try.results100,go_sem]
theorem xld (n:Nat):madeCells #[.int .i64 0,.int .i64 0] (n*2)=(xam (List.replicate n xaU)).toArray:=by
 rw[xhf];unfold madeCells
 apply Array.ext
 ·simp
 ·intro i h1 h2
  simp
  rcases Nat.mod_two_eq_zero_or_one i with h | h<;>simp[h]
theorem xfW (n:Int)(w:World):Calls Try.prog 101 #[.int .i64 n] w fun e w'=>∃ g,e=.returned (.slice (some ⟨g,0,none⟩) (xaG n).length (xaG n).length)/\w'.heap[g]?=some (.cells (xam (xaG n)).toArray 27 (0,0))/\w.heap.size<=g/\Below w.heap.size w w':=by
 by_cases hn:n<0
 ·have HR:Hid (xaG n=List.replicate 0 xaU):=by show _=_;unfold xaG;congr 1;omega
  have hmk:∀ w:World,(Instr.makeSlice 28 (.int .i64 0) (.int .i64 0)).run Try.prog w=.ok (.slice (some ⟨w.heap.size,0,none⟩) 0 0) (w.alloc (.cells (madeCells #[.int .i64 0,.int .i64 0] (0*2)) 27)):=xcH 0 (by omega)
  have hn':decide (n<0)=true:=by simpa using hn
  go_enter Try.func101,Try.ntmps101;go_wp2
  go_ret
  rw[HR.out,List.length_replicate]
  exact⟨_,rfl,by rw[← xld];exact qzJ _ _,qzC _,xak _ _⟩
 ·obtain⟨m,rfl⟩:∃ m:Nat,n=(m:Int):=⟨n.toNat,by omega⟩
  by_cases hm4:m<=40
  ·have HR:Hid (xaG m=List.replicate m xaU):=by show _=_;unfold xaG;congr 1;omega
   have hmk:=xcH m (by omega)
   have hm5:(m:Int)<=40:=by omega
   have hm6:¬ (40<(m:Int)):=by omega
   go_enter Try.func101,Try.ntmps101;go_wp2
   go_ret
   rw[HR.out,List.length_replicate]
   exact⟨_,rfl,by rw[← xld];exact qzJ _ _,qzC _,xak _ _⟩
  ·have HR:Hid (xaG m=List.replicate 40 xaU):=by show _=_;unfold xaG;congr 1;omega
   have hmk:∀ w:World,(Instr.makeSlice 28 (.int .i64 40) (.int .i64 40)).run Try.prog w=.ok (.slice (some ⟨w.heap.size,0,none⟩) 40 40) (w.alloc (.cells (madeCells #[.int .i64 0,.int .i64 0] (40*2)) 27)):=xcH 40 (by omega)
   have hm5:40<(m:Int):=by omega
   go_enter Try.func101,Try.ntmps101;go_wp2
   go_ret
   rw[HR.out,List.length_replicate]
   exact⟨_,rfl,by rw[← xld];exact qzJ _ _,qzC _,xak _ _⟩
theorem xfp (l:List QV)(g:Nat)(n:Int)(v:QV)(w:World)(h:w.heap[g]?=some (.cells (xam l).toArray 27 (0,0))):Calls Try.prog 112 #[.slice (some ⟨g,0,none⟩) l.length l.length,.int .i64 n,VV v] w fun e w'=>e=.returned (.tuple #[])/\w'.heap[g]?=some (.cells (xam (xaW l n v)).toArray 27 (0,0))/\w.heap.size<w'.heap.size/\∀ (S:Nat->Prop) (T:Nat->Nat),S (T g)->Kp S T w w':=by
 have hgl:=xal h;have hb1:=xak w (.cells #[.int .i64 v.k,.int .i64 v.n] 27);have h1:=xad h hb1
 by_cases hn:n<0
 ·have HE:Hid (xaW l n v=l):=by show _=_;unfold xaW;rw[if_pos hn]
  have hn':decide (0<=n)=false:=by simpa using hn
  go_enter Try.func112,Try.ntmps112;go_wp2;refine bodyPost_end (v:=.tuple #[]) (by simp[results,Try.results112,go_sem]) rfl ⟨rfl,by rw[HE.out];exact h1,by simp,fun S T hs=>Kp.of_below (xak _ _)⟩
 ·obtain⟨k,rfl⟩:∃ k:Nat,n=k:=⟨n.toNat,by omega⟩
  have HE:Hid (xaW l k v=l.set k v):=by show _=_;unfold xaW;rw[if_neg hn];simp
  have hn':decide (0<=(k:Int))=true:=by simp
  by_cases hk:k<l.length
  ·have hk1:(k:Int)<(l.length:Int):=by omega
   obtain⟨c0,c1⟩:=xfz h1 (show l[k]?=some l[k] by simp[hk])
   have f0:∀ o,(w.alloc (.cells #[.int .i64 v.k,.int .i64 v.n] 27)).frozen? ⟨g,o,none⟩=false:=fun o=>by unfold World.frozen?;simp only[h1];simp
   have hset:=xkM h1 k v;have b0:=(xaa w #[.int .i64 v.k,.int .i64 v.n] 27 _ rfl 0);have b1:=(xaa w #[.int .i64 v.k,.int .i64 v.n] 27 _ rfl 1);have HK:Hid (∀ (S:Nat->Prop) (T:Nat->Nat),Kp S T w (w.alloc (.cells #[.int .i64 v.k,.int .i64 v.n] 27))):=fun S T=>Kp.of_below (xak _ _)
   have hz:w.heap.size<(w.alloc (.cells #[.int .i64 v.k,.int .i64 v.n] 27)).heap.size:=by simp
   have hne:¬ w.heap.size=g:=by omega
   have hne':¬ g=w.heap.size:=by omega
   go_enter Try.func112,Try.ntmps112
   go_upto_region 1 with (fail)
   generalize (w.alloc (.cells #[.int .i64 v.k,.int .i64 v.n] 27))=W at *
   simp at b0 b1
   go_wp2;refine bodyPost_end (v:=.tuple #[]) (by simp[results,Try.results112,go_sem]) rfl ⟨rfl,by rw[HE.out];exact hset,by simpa using hz,fun S T hs=>((HK.out S T).set (fun _=>hs) _ _).set (fun _=>hs) _ _⟩
  ·have hk1:((l.length:Int)<=(k:Int)):=by omega
   have hs:l.set k v=l:=List.set_eq_of_length_le (by omega)
   go_enter Try.func112,Try.ntmps112;go_wp2;refine bodyPost_end (v:=.tuple #[]) (by simp[results,Try.results112,go_sem]) rfl ⟨rfl,by rw[HE.out,hs];exact h1,by simp,fun S T hs=>Kp.of_below (xak _ _)⟩
end Go.Proofs.Ytdfbgpiikeheiaa
