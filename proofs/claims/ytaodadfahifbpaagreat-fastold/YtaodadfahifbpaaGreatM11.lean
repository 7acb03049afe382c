/- A part. -/
import Derived.Test.YtaodadfahifbpaaGreatM10
import Derived.BigRegion
import Derived.Deep.RegionLaw
namespace Go.Proofs.YtaodadfahifbpaaGreat
open Go.ChangeShapes Go.WideShapes Go.ChangeAt Go.RowKit
set_option linter.unusedSimpArgs false
set_option linter.unusedVariables false
set_option maxHeartbeats 8000000
set_option maxRecDepth 8000
theorem xcz {wr w2:World}{B:Nat}{X Y:Obj}{a:Option Addr}{e:TypeId}{sz n k:Nat}{xs:List Value}(hown:wr.ownsRow B e sz (.slice a n k) n xs)(hB:B<=wr.heap.size)(hgr:((wr.alloc X).alloc Y).grownBy w2 (Value.ownBlock (.slice a n k))):Below B wr w2:=
 ((Below.refl B wr).alloc hB X).trans (xck (hown.alloc X) (by simp;omega) hgr)
theorem xjN {wr w2:World}{B:Nat}{X Y:Obj}{a:Option Addr}{e:TypeId}{sz n k:Nat}{xs:List Value}(hown:wr.ownsRow B e sz (.slice a n k) n xs)(hgr:((wr.alloc X).alloc Y).grownBy w2 (Value.ownBlock (.slice a n k))):w2.heap[wr.heap.size]?=some X:=by
 rw[hgr.block wr.heap.size (by simp;omega) ?_,(xaj _ _).block _ (by simp)]
 ·exact xbf _ _ _ rfl
 ·obtain⟨-,⟨e,-⟩ | ⟨g,c,cur,e,h1,h2,-⟩⟩:=hown
  ·rw[e];simp[Value.ownBlock]
  ·rw[e];have:=xai h2
   simp[Value.ownBlock]
   omega
theorem xi6 {m:QM}:∀ (r:List QM) (s:InsS),(r.foldl (xdM m) s).ms.length<=s.ms.length+r.length+(if s.done then 0 else 1)/\((r.foldl (xdM m) s).done=false->s.done=false/\(r.foldl (xdM m) s).ms.length<=s.ms.length+r.length)
 | [],s=>by simp
 | x :: r,s=>by
  obtain⟨h1,h2⟩:=xi6 (m:=m) r (xdM m s x);rw[List.foldl_cons]
  cases he:eqN x.name m.name
  ·by_cases hg:s.done=false/\gtN x.name m.name=true
   ·have e:xdM m s x=⟨s.ms++[m]++[x],true,s.was⟩:=by simp[xdM,he,hg]
    rw[e] at h1 h2 ⊢
    simp[hg.1] at h1 h2 ⊢
    exact⟨by omega,fun h=>by rw[h2] at h;cases h⟩
   ·have e:xdM m s x=⟨s.ms++[x],s.done,s.was⟩:=by simp[xdM,he,hg]
    rw[e] at h1 h2 ⊢
    simp at h1 h2 ⊢
    exact⟨by omega,fun h=>⟨(h2 h).1,by have:=(h2 h).2;omega⟩⟩
  ·have e:xdM m s x=⟨s.ms++[m],true,true⟩:=by simp[xdM,he]
   rw[e] at h1 h2 ⊢
   simp at h1 h2 ⊢
   exact⟨by split<;>omega,fun h=>by rw[h2] at h;cases h⟩
theorem xfr {α β:Type}(f:β->α->β)(b:β)(xs:List α)(j:Nat)(x:α)(h:xs[j]?=some x):(xs.take (j+1)).foldl f b=f ((xs.take j).foldl f b) x:=by
 rw[List.take_add_one,h];simp
def xnI (P:Nat->Prop)(w:World)(X:QW)(c:Int)(m:QM)(hv:Value)(e:Ending)(w':World):Prop:=
 (xfM X.cz.length c=false/\e=.returned (.tuple #[WV (.slice none 0 0) (.slice none 0 0) 0,.int .i64 6])\/
  ∃ (k:Nat) (x:QC),c=(k:Int)/\X.cz[k]?=some x/\
   ((xcd x.mz m.name<0/\8<=x.mz.length/\e=.returned (.tuple #[WV (.slice none 0 0) (.slice none 0 0) 0,.int .i64 5]))\/
    (¬ (xcd x.mz m.name<0/\8<=x.mz.length)/\∃ cv',e=.returned (.tuple #[WV cv' hv (xgj X.ez),.int .i64 0])/\xaf (fun b=>P b\/w.heap.size<=b) w' cv' (xhF X k x m).cz)))/\Below w.heap.size w w'
abbrev In (w:World):Nat->Prop:=fun b=>b<w.heap.size
abbrev InP (P:Nat->Prop)(w:World):Nat->Prop:=fun b=>P b/\b<w.heap.size
theorem xe7 {P:Nat->Prop}{w:World}{v:Value}{xs:List QI}(h:xaK P w v xs):xaK (InP P w) w v xs:=by
 obtain⟨ad,cap,h1,h2,h3,h4,h5⟩:=h;refine⟨ad,cap,h1,h2,h3,h4,fun i x hx=>?_⟩
 obtain⟨b,o,e1,e2,e3⟩:=h5 i x hx
 exact⟨b,o,e1,⟨e2,World.block_lt_of_cell? w _ e3.1⟩,e3⟩
theorem xe3 {α:Type}{E:Lay α}{sz bytes:Nat}(G:Good E sz){t:TypeId}{Q:Nat->Prop}{B n k:Nat}{a:Option Addr}{w:World}{cs:List Value}{xs:List α}(hown:w.ownsRow B t sz (.slice a n k) n cs)(hc:Cells E sz Q w cs xs)(hn:xs.length=n)(hQ:∀ b,B<=b->b<w.heap.size->Q b)(hby:n*bytes<=140737488351232):IsRow E sz bytes Q w (.slice a n k) xs:=by
 obtain⟨-,⟨e,h0⟩ | ⟨g,c,cur,e,h1,h2,h3,h4,h5,h6⟩⟩:=hown
 ·cases e
  obtain rfl:=List.eq_nil_of_length_eq_zero hn
  exact xbk
 ·cases e
  subst hn
  exact hc.row G (hQ _ h1 (xai h2)) h2 h6 h3 h4 hby
theorem xdQ {t:TypeId}{B sz n k g:Nat}{w:World}{cs:List Value}(hown:w.ownsRow B t sz (.slice (some ⟨g,0,none⟩) n k) n cs){j:Nat}{u:Value}(hj:cs[j]?=some u):w.cell? ⟨g,j,none⟩=some u:=by
 obtain⟨-,⟨e,h0⟩ | ⟨g',c,cur,e,h1,h2,h3,h4,h5,h6⟩⟩:=hown
 ·cases e
 ·cases e
  rw[qzB h2];rw[← h6,List.getElem?_take] at hj
  split at hj
  ·simpa using hj
  ·cases hj
theorem xeV {t:TypeId}{B sz n k g:Nat}{w:World}{cs:List Value}(hown:w.ownsRow B t sz (.slice (some ⟨g,0,none⟩) n k) n cs)(j:Nat):w.frozen? ⟨g,j,none⟩=false:=by
 obtain⟨-,⟨e,h0⟩ | ⟨g',c,cur,e,h1,h2,h3,h4,h5,h6⟩⟩:=hown
 ·cases e
 ·cases e
  unfold World.frozen?;simp[h2]
theorem Cells.setAt {α:Type}{E:Lay α}{sz:Nat}{P:Nat->Prop}{w:World}{cs cs':List Value}{xs:List α}(h:Cells E sz P w cs xs)(G:Good E sz){q:Nat}{y:α}(hq:q<xs.length)(hl:cs'.length=cs.length)(hk:∀ j,(j<q*sz\/(q+1)*sz<=j)->cs'[j]?=cs[j]?)(hy:E P w (fun k=>cs'[q*sz+k]?) y):Cells E sz P w cs' (xs.set q y):=by
 refine⟨by rw[hl,h.1,List.length_set],fun i x hx=>?_⟩
 by_cases hi:i=q
 ·subst hi;rw[List.getElem?_set_self hq] at hx
  cases hx
  exact hy
 ·rw[List.getElem?_set_ne (Ne.symm hi)] at hx;refine G.move (h.2 i x hx) (fun _ h=>h) (.refl _ _) fun k hk' v hv=>?_
  rw[hk]
  ·exact hv
  ·rcases Nat.lt_or_gt_of_ne hi with h' | h'
   ·left
    have:(i+1)*sz<=q*sz:=Nat.mul_le_mul_right _ h';rw[Nat.add_mul] at this
    omega
   ·right
    have:(q+1)*sz<=i*sz:=Nat.mul_le_mul_right _ h'
    omega
structure LayR (P:Nat->Prop)(w W0:World)(m:QM)(s:InsS)(a:Option Addr)(k:Nat)(cs:List Value)(wr:World):Prop where
 bel:Below (w.heap.size+3) W0 wr
 own:wr.ownsRow (w.heap.size+3) 59 5 (.slice a s.ms.length k) s.ms.length cs
 cells:Cells xeP 5 (InP P w) w cs s.ms
theorem xjc {P:Nat->Prop}{w wc wA:World}{X:QW}{m:QM}{q:Nat}{x:QC}{ccs:List Value}{az:Option Addr}{L cap2 gA capA:Nat}{S1 S2 S3 S4 S5:Value}(hx:X.cz[q]?=some x)(hbw:Below w.heap.size w wc)(hA:Below wc.heap.size wc wA)(hgB:wc.heap.size<=gA)(hsz:w.heap.size+3<=wc.heap.size)
  (hownA:wA.ownsRow wc.heap.size 71 4 (.slice (some ⟨gA,0,none⟩) X.cz.length capA) X.cz.length ccs) (HCC:Cells xec 4 P w ccs X.cz) (hMZ:xbj (fun b=>(P b/\b<w.heap.size\/w.heap.size+3<=b)/\b<wc.heap.size) wc (.slice az L cap2) (xlP x.mz m)) (hby:X.cz.length*56<=140737488351232) :
  Below w.heap.size w ((((((wA.setCell ⟨w.heap.size,0,none⟩ S1).setCell ⟨gA,q*4+3,none⟩ (.slice az L cap2)).setCell ⟨w.heap.size,2,none⟩ S2).setCell ⟨w.heap.size+1+1,0,none⟩ S3).setCell ⟨w.heap.size+1+1,1,none⟩ S4).setCell ⟨w.heap.size+1+1,2,none⟩ S5)/\
   xaf (fun b=>P b\/w.heap.size<=b) ((((((wA.setCell ⟨w.heap.size,0,none⟩ S1).setCell ⟨gA,q*4+3,none⟩ (.slice az L cap2)).setCell ⟨w.heap.size,2,none⟩ S2).setCell ⟨w.heap.size+1+1,0,none⟩ S3).setCell ⟨w.heap.size+1+1,1,none⟩ S4).setCell ⟨w.heap.size+1+1,2,none⟩ S5) (.slice (some ⟨gA,0,none⟩) X.cz.length capA) (xhF X q x m).cz:=by
 have hF:Below w.heap.size w ((((((wA.setCell ⟨w.heap.size,0,none⟩ S1).setCell ⟨gA,q*4+3,none⟩ (.slice az L cap2)).setCell ⟨w.heap.size,2,none⟩ S2).setCell ⟨w.heap.size+1+1,0,none⟩ S3).setCell ⟨w.heap.size+1+1,1,none⟩ S4).setCell ⟨w.heap.size+1+1,2,none⟩ S5):=
  xba ((((xae hbw hA).setCell (qzC _) _).setCell (by show w.heap.size<=gA;omega) _).setCell (qzC _) _) (by omega) _ _ _
 refine⟨hF,?_⟩
 have hM2:xbj (fun b=>P b\/w.heap.size<=b) ((((((wA.setCell ⟨w.heap.size,0,none⟩ S1).setCell ⟨gA,q*4+3,none⟩ (.slice az L cap2)).setCell ⟨w.heap.size,2,none⟩ S2).setCell ⟨w.heap.size+1+1,0,none⟩ S3).setCell ⟨w.heap.size+1+1,1,none⟩ S4).setCell ⟨w.heap.size+1+1,2,none⟩ S5) (.slice az L cap2) (xlP x.mz m):=
  hMZ.keep xbn (xax (xax (xax (xax (xax (xax (.of_below hA) (by rintro⟨⟨_,h⟩ | h,_⟩<;>omega) _) (by rintro⟨⟨_,h⟩ | h,_⟩<;>omega) _) (by rintro⟨⟨_,h⟩ | h,_⟩<;>omega) _) (by rintro⟨⟨_,h⟩ | h,_⟩<;>omega) _) (by rintro⟨⟨_,h⟩ | h,_⟩<;>omega) _) (by rintro⟨⟨_,h⟩ | h,_⟩<;>omega) _) fun b hb=>by
   rcases hb.1 with h | h
   ·exact Or.inl h.1
   ·exact Or.inr (by omega)
 have hq:=xag hx;obtain⟨-,⟨e,h0⟩ | ⟨g,c,cur,e,h1,h2,h3,h4,h5,h6⟩⟩:=hownA
 ·cases e
 ·cases e
  have hlen:(xhF X q x m).cz.length=X.cz.length:=by simp[xhF]
  have hblk:((((((wA.setCell ⟨w.heap.size,0,none⟩ S1).setCell ⟨gA,q*4+3,none⟩ (.slice az L cap2)).setCell ⟨w.heap.size,2,none⟩ S2).setCell ⟨w.heap.size+1+1,0,none⟩ S3).setCell ⟨w.heap.size+1+1,1,none⟩ S4).setCell ⟨w.heap.size+1+1,2,none⟩ S5).heap[gA]?=some (.cells (cur.setIfInBounds (q*4+3) (.slice az L cap2)) 71 (0,0)):=by
   rw[xac (by omega),xac (by omega),xac (by omega),xac (by omega)]
   exact xah (by rw[xac (by omega)];exact h2) _
  have hcs:=HCC.keep xau (.of_below hF) (Q:=fun b=>P b\/w.heap.size<=b) fun _ h=>Or.inl h
  obtain⟨e0,e1,e2,en,-⟩:=hcs.2 q x hx;have hl3:q*4+3<ccs.length:=by rw[hcs.1];omega
  have hC2:Cells xec 4 (fun b=>P b\/w.heap.size<=b) ((((((wA.setCell ⟨w.heap.size,0,none⟩ S1).setCell ⟨gA,q*4+3,none⟩ (.slice az L cap2)).setCell ⟨w.heap.size,2,none⟩ S2).setCell ⟨w.heap.size+1+1,0,none⟩ S3).setCell ⟨w.heap.size+1+1,1,none⟩ S4).setCell ⟨w.heap.size+1+1,2,none⟩ S5) (ccs.set (q*4+3) (.slice az L cap2)) (xhF X q x m).cz:=by
   refine hcs.setAt xau hq (by simp) (fun j hj=>List.getElem?_set_ne (by omega)) ⟨?_,?_,?_,en,_,?_,hM2⟩
   ·exact (List.getElem?_set_ne (by omega)).trans e0
   ·exact (List.getElem?_set_ne (by omega)).trans e1
   ·exact (List.getElem?_set_ne (by omega)).trans e2
   ·exact List.getElem?_set_self hl3
  have:=hC2.row (bytes:=56) (cap:=capA) xau (Or.inr (by omega)) hblk (by rw[hlen,← h6];simp[List.take_set]) (by rw[hlen];exact h3) h4 (by rw[hlen];exact hby)
  rw[hlen] at this
  exact this
theorem xg4 {P:Nat->Prop}(X:QW)(c:Int)(m:QM)(cv hv mv:Value)(w:World)(hh:xaf P w cv X.cz)(hH:xaA P w hv X.heap)(hM:xaK P w mv m.code)(hmn:m.name.size<=140737488351232)(hRC:xhK X.cz):Calls Tryz.prog 14 #[WV cv hv X.ez,.int .i64 c,MV m mv] w fun e w'=>xnI P w X c m hv e w':=by
 obtain⟨ad,cap,rfl,hl,hcap,hby,hrow⟩:=id hh;obtain⟨ah,ch,rfl,-,-,-,-⟩:=id hH;obtain⟨am,cm,rfl⟩:=hM.get;obtain⟨i0,hi,hz0,hz1,hz2⟩:=xbd xlS;unfold maxLen at hcap;go_enter Tryz.func14,Tryz.ntmps14
 cases hhas:xfM X.cz.length c
 ·have HE:Hid (∀ W:World,Below w.heap.size w W->xnI P w X c m (.slice ah X.heap.length ch) (.returned (.tuple #[WV (.slice none 0 0) (.slice none 0 0) 0,.int .i64 6])) W):=fun W h=>⟨Or.inl ⟨hhas,rfl⟩,h⟩
  by_cases h0:c<0
  ·go_wp2;refine bodyPost_ret (v:=.tuple #[WV (.slice none 0 0) (.slice none 0 0) 0,.int .i64 6]) ?_ rfl (HE.out _ ?_)
   ·simp[results,Tryz.results14,go_sem]
   ·first | exact xeQ _ _ _ _ | exact xba (xeQ _ _ _ _) (by omega) _ _ _
  ·have h0':decide (c<0)=false:=by simpa using h0
   have h1:(X.cz.length:Int)<=c:=by simp[xfM] at hhas;omega
   go_wp2;refine bodyPost_ret (v:=.tuple #[WV (.slice none 0 0) (.slice none 0 0) 0,.int .i64 6]) ?_ rfl (HE.out _ ?_)
   ·simp[results,Tryz.results14,go_sem]
   ·first | exact xeQ _ _ _ _ | exact xba (xeQ _ _ _ _) (by omega) _ _ _
 ·have h0:(0:Int)<=c:=by simp[xfM] at hhas;omega
  obtain⟨q,rfl⟩:=Int.eq_ofNat_of_zero_le h0;have hq:q<X.cz.length:=by simp[xfM] at hhas;omega
  have h1:(q:Int)<(X.cz.length:Int):=by omega
  obtain⟨x,hx⟩:∃ x,X.cz[q]?=some x:=⟨_,List.getElem?_eq_getElem hq⟩;obtain⟨b,o,rfl,-,v0,v1,v2,-,sv,v3,hms⟩:=hrow q x hx;obtain⟨am2,km,rfl,hlm,hkm,hbm,hrm⟩:=id hms;unfold maxLen at hkm;have HX:Hid (X.cz[q]?=some x):=hx;have hRM:RisesM x.mz:=hRC q x hx;have HROW:Hid (RowAt xec 4 P w (some ⟨b,o,none⟩) X.cz):=hrow;clear hx hhas hrow;have v3x:=fun x1 x2 x3=>qzA (xeQ w x1 x2 x3) v3
  go_wp2;generalize hW0:((w.alloc (Obj.cells #[Value.slice (some ⟨b,o,none⟩) X.cz.length cap,Value.slice ah X.heap.length ch,Value.int .i64 X.ez] 25)).alloc (Obj.cells #[Value.string m.name,Value.int .i64 m.args,Value.int .i64 m.temps,Value.int .i64 m.prim,Value.slice am m.code.length cm] 59)).alloc (Obj.cells #[Value.slice none 0 0,Value.slice none 0 0,Value.int .i64 0] 25)=W0 at *;have hBW:Below w.heap.size w W0:=by rw[← hW0];exact xeQ _ _ _ _
  have hsW:W0.heap.size=w.heap.size+3:=by rw[← hW0];simp
  have gA:W0.heap[w.heap.size]?=some (.cells #[Value.slice (some ⟨b,o,none⟩) X.cz.length cap,Value.slice ah X.heap.length ch,Value.int .i64 X.ez] 25 (0,0)):=by rw[← hW0,(xbA _ _ _).block _ (by simp)];exact xbf _ _ _ rfl
  have gB:W0.heap[w.heap.size+1]?=some (.cells #[Value.string m.name,Value.int .i64 m.args,Value.int .i64 m.temps,Value.int .i64 m.prim,Value.slice am m.code.length cm] 59 (0,0)):=by rw[← hW0,(xaj _ _).block _ (by simp)];exact xbf _ _ _ (by simp)
  have gC:W0.heap[w.heap.size+1+1]?=some (.cells #[Value.slice none 0 0,Value.slice none 0 0,Value.int .i64 0] 25 (0,0)):=by rw[← hW0];exact xbf _ _ _ (by simp)
  clear hW0
  go_loopg [8,9,10,30] x.mz.length (fun g ms dn ws i wr=>∃ (j:Nat) (s:InsS) (a:Option Addr) (k:Nat) (cs:List Value),j+g=x.mz.length/\i=.int .i64 j/\s=(x.mz.take j).foldl (xdM m) ⟨[],false,false⟩/\ms=.slice a s.ms.length k/\dn=.bool s.done/\ws=.bool s.was/\LayR P w W0 m s a k cs wr)
  case atStart=>exact⟨0,⟨[],false,false⟩,none,0,[],by omega,rfl,rfl,rfl,rfl,rfl,Below.refl _ _,⟨by simp,Or.inl ⟨rfl,rfl⟩⟩,.nil⟩
  case round=>
   obtain⟨j,s,a,k,cs,hg,rfl,hs,rfl,rfl,rfl,hL⟩:=hrel;obtain⟨sm,sd,sw⟩:=s;have HS:Hid (InsS.mk sm sd sw=(x.mz.take j).foldl (xdM m) ⟨[],false,false⟩):=hs
   have hlen1:sm.length<=j+1:=by
    have:=(xi6 (m:=m) (x.mz.take j) ⟨[],false,false⟩).1;rw[← hs] at this
    simp at this
    have h2:=List.length_take_le j x.mz
    simp at h2
    omega
   obtain⟨hbel,hown,hcs⟩:=id hL;have hsz:w.heap.size+3<=wr.heap.size:=by have:=hbel.size;omega
   have hbw:Below w.heap.size w wr:=hBW.trans (hbel.mono (by omega))
   have HCS:Hid (Cells xeP 5 (InP P w) w cs sm):=hcs;clear hs hL hcs;simp only at hown
   by_cases hj:j<x.mz.length
   ·have hj1:(j:Int)<(x.mz.length:Int):=by omega
    have hj0:(0:Int)<=(j:Int):=by omega
    obtain⟨y,hy⟩:∃ y,x.mz[j]?=some y:=⟨_,List.getElem?_eq_getElem hj⟩;obtain⟨b2,o2,rfl,-,p0,p1,p2,p3,hyn,yv,p4,hyc⟩:=hrm j y hy;obtain⟨ay,ky,rfl⟩:=hyc.get;have HY:Hid (InsS.mk sm sd sw=(x.mz.take j).foldl (xdM m) ⟨[],false,false⟩->(x.mz.take (j+1)).foldl (xdM m) ⟨[],false,false⟩=xdM m ⟨sm,sd,sw⟩ y):=fun h=>by rw[xfr _ _ _ _ _ hy,h]
    simp only[Nat.add_zero] at p0;replace p0:=qzA hbw p0;replace p1:=qzA hbw p1;replace p2:=qzA hbw p2;replace p3:=qzA hbw p3;replace p4:=qzA hbw p4;have gB':wr.heap[w.heap.size+1]?=some (.cells #[Value.string m.name,Value.int .i64 m.args,Value.int .i64 m.temps,Value.int .i64 m.prim,Value.slice am m.code.length cm] 59 (0,0)):=by rw[hbel.block _ (by omega)];exact gB
    have mc:∀ z q,(wr.alloc z).cell? ⟨w.heap.size+1,q,none⟩=(#[Value.string m.name,Value.int .i64 m.args,Value.int .i64 m.temps,Value.int .i64 m.prim,Value.slice am m.code.length cm]:Array Value)[q]?:=fun z q=>by rw[(xaj wr z).cell (p:=⟨w.heap.size+1,q,none⟩) (by simp;omega),qzB gB']
    have HYC:Hid (xaK (InP P w) w (.slice ay y.code.length ky) y.code):=xe7 hyc;clear hy hyc
    cases he:eqN y.name m.name
    ·have he':(y.name.toList == m.name.toList)=false:=he
     cases sd
     ·cases hlt:Op.bytesLess y.name.toList m.name.toList
      ·have hg:gtN y.name m.name=true:=by unfold gtN;rw[hlt,he'];rfl
       go_wp2_with (first
        | (at_builtin;refine wpList_append_lies _ rfl (.tmp 52) (.tmp 54) 69 rfl (w.heap.size+3) 59 i0 _ 5 64 Tryz.underlying69 hi hz0 hz1 hz2 rfl (by decide) _ sm.length _ rfl ((hown.alloc _).alloc _) ⟨_,0,none⟩ 1 1 [Value.string m.name,Value.int .i64 m.args,Value.int .i64 m.temps,Value.int .i64 m.prim,Value.slice am m.code.length cm] rfl rfl (fun j u hu=>(by rw[Addr.add_lit,Nat.zero_add];exact (xaa (World.alloc wr _) _ 59 _ (by simp) j).trans (by simpa using hu))) (by intro u hu;simp at hu;rcases hu with rfl | rfl | rfl | rfl | rfl<;>rfl) (by omega) (by unfold maxLen;omega) (by omega) (by first | (simp;omega) | (have:=hb2.size;simp;omega)) _ rfl ?_;intro gg cap2 w2 hown2 hgr hor hlt2;have hb2:=xcz hown hsz hgr;have hk2:=xjN hown hgr;have yc:∀ q,w2.cell? ⟨wr.heap.size,q,none⟩=(#[Value.string y.name,Value.int .i64 y.args,Value.int .i64 y.temps,Value.int .i64 y.prim,Value.slice ay y.code.length ky]:Array Value)[q]?:=(fun q=>by rw[qzB hk2]))
        | (at_builtin;refine wpList_append_lies _ rfl (.tmp 56) (.tmp 58) 69 rfl (w.heap.size+3) 59 i0 _ 5 64 Tryz.underlying69 hi hz0 hz1 hz2 rfl (by decide) _ (sm.length+1) _ rfl (hown2.alloc _) ⟨_,0,none⟩ 1 1 [Value.string y.name,Value.int .i64 y.args,Value.int .i64 y.temps,Value.int .i64 y.prim,Value.slice ay y.code.length ky] rfl rfl (fun j u hu=>(by rw[Addr.add_lit,Nat.zero_add];exact (xaa w2 _ 59 _ rfl j).trans (by simpa using hu))) (by intro u hu;simp at hu;rcases hu with rfl | rfl | rfl | rfl | rfl<;>rfl) (by omega) (by unfold maxLen;omega) (by omega) (by first | (simp;omega) | (have:=hb2.size;simp;omega)) _ rfl ?_;intro gg3 cap3 w3 hown3 hgr3 hor3 hlt3;have hb3:=xck hown2 (qzD hsz hb2.size) hgr3))
       go_roundg (gk-1)
       case measure=>omega
       case rel=>
        refine⟨j+1,⟨sm++[m]++[y],true,sw⟩,some ⟨gg3,0,none⟩,cap3,_,by omega,by go_num,?_,by simp,rfl,rfl,hbel.trans (hb2.trans hb3),by simpa using hown3,(HCS.out.append xbn (xbL m _ hmn (xe7 hM))).append xbn (xbL y _ hyn HYC.out)⟩
        rw[HY.out HS.out]
        simp[xdM,he,hg]
      ·have hg:gtN y.name m.name=false:=by unfold gtN;rw[hlt];rfl
       go_wp2_with (at_builtin;refine wpList_append_lies _ rfl (.tmp 56) (.tmp 58) 69 rfl (w.heap.size+3) 59 i0 _ 5 64 Tryz.underlying69 hi hz0 hz1 hz2 rfl (by decide) _ sm.length _ rfl ((hown.alloc _).alloc _) ⟨_,0,none⟩ 1 1 [Value.string y.name,Value.int .i64 y.args,Value.int .i64 y.temps,Value.int .i64 y.prim,Value.slice ay y.code.length ky] rfl rfl (fun j u hu=>(by rw[Addr.add_lit,Nat.zero_add];exact (xaa (World.alloc wr _) _ 59 _ (by simp) j).trans (by simpa using hu))) (by intro u hu;simp at hu;rcases hu with rfl | rfl | rfl | rfl | rfl<;>rfl) (by omega) (by unfold maxLen;omega) (by omega) (by first | (simp;omega) | (have:=hb2.size;simp;omega)) _ rfl ?_;intro gg cap2 w2 hown2 hgr hor hlt2;have hb2:=xcz hown hsz hgr)
       go_roundg (gk-1)
       case measure=>omega
       case rel=>
        refine⟨j+1,⟨sm++[y],false,sw⟩,some ⟨gg,0,none⟩,cap2,_,by omega,by go_num,?_,by simp,rfl,rfl,hbel.trans hb2,by simpa using hown2,HCS.out.append xbn (xbL y _ hyn HYC.out)⟩
        rw[HY.out HS.out]
        simp[xdM,he,hg]
     ·go_wp2_with (at_builtin;refine wpList_append_lies _ rfl (.tmp 56) (.tmp 58) 69 rfl (w.heap.size+3) 59 i0 _ 5 64 Tryz.underlying69 hi hz0 hz1 hz2 rfl (by decide) _ sm.length _ rfl ((hown.alloc _).alloc _) ⟨_,0,none⟩ 1 1 [Value.string y.name,Value.int .i64 y.args,Value.int .i64 y.temps,Value.int .i64 y.prim,Value.slice ay y.code.length ky] rfl rfl (fun j u hu=>(by rw[Addr.add_lit,Nat.zero_add];exact (xaa (World.alloc wr _) _ 59 _ (by simp) j).trans (by simpa using hu))) (by intro u hu;simp at hu;rcases hu with rfl | rfl | rfl | rfl | rfl<;>rfl) (by omega) (by unfold maxLen;omega) (by omega) (by first | (simp;omega) | (have:=hb2.size;simp;omega)) _ rfl ?_;intro gg cap2 w2 hown2 hgr hor hlt2;have hb2:=xcz hown hsz hgr)
      go_roundg (gk-1)
      case measure=>omega
      case rel=>
       refine⟨j+1,⟨sm++[y],true,sw⟩,some ⟨gg,0,none⟩,cap2,_,by omega,by go_num,?_,by simp,rfl,rfl,hbel.trans hb2,by simpa using hown2,HCS.out.append xbn (xbL y _ hyn HYC.out)⟩
       rw[HY.out HS.out]
       simp[xdM,he]
    ·have he':(y.name.toList == m.name.toList)=true:=he
     go_wp2_with (at_builtin;refine wpList_append_lies _ rfl (.tmp 39) (.tmp 41) 69 rfl (w.heap.size+3) 59 i0 _ 5 64 Tryz.underlying69 hi hz0 hz1 hz2 rfl (by decide) _ sm.length cs rfl ((hown.alloc _).alloc _) ⟨_,0,none⟩ 1 1 [Value.string m.name,Value.int .i64 m.args,Value.int .i64 m.temps,Value.int .i64 m.prim,Value.slice am m.code.length cm] rfl rfl (fun j u hu=>(by rw[Addr.add_lit,Nat.zero_add];exact (xaa (World.alloc wr _) _ 59 _ (by simp) j).trans (by simpa using hu))) (by intro u hu;simp at hu;rcases hu with rfl | rfl | rfl | rfl | rfl<;>rfl) (by omega) (by unfold maxLen;omega) (by omega) (by simp;omega) _ rfl ?_;intro gg cap2 w2 hown2 hgr hor hlt2;have hb2:=xcz hown hsz hgr)
     go_roundg (gk-1)
     case measure=>omega
     case rel=>
      refine⟨j+1,⟨sm++[m],true,true⟩,some ⟨gg,0,none⟩,cap2,_,by omega,by go_num,?_,by simp,rfl,rfl,hbel.trans hb2,by simpa using hown2,HCS.out.append xbn (xbL m _ hmn (xe7 hM))⟩
      rw[HY.out HS.out]
      simp[xdM,he]
   ·obtain rfl:j=x.mz.length:=by omega
    have hF:Hid (xna m x.mz=⟨sm,sd,sw⟩):=by show _=_;unfold xna;rw[HS.out,List.take_length]
    have hsw:Hid (sw=decide (0<=xcd x.mz m.name)):=by show _=_;rw[← xmB hRM,hF.out]
    have hlI:xlP x.mz m=if sd then sm else sm++[m]:=by rw[← xlY hRM];unfold xpG;rw[hF.out]
    have hj1:(x.mz.length:Int)<=(x.mz.length:Int):=by omega
    have gA':wr.heap[w.heap.size]?=some (.cells #[Value.slice (some ⟨b,o,none⟩) X.cz.length cap,Value.slice ah X.heap.length ch,Value.int .i64 X.ez] 25 (0,0)):=by rw[hbel.block _ (by omega)];exact gA
    have gB':wr.heap[w.heap.size+1]?=some (.cells #[Value.string m.name,Value.int .i64 m.args,Value.int .i64 m.temps,Value.int .i64 m.prim,Value.slice am m.code.length cm] 59 (0,0)):=by rw[hbel.block _ (by omega)];exact gB
    have mc:∀ q,wr.cell? ⟨w.heap.size+1,q,none⟩=(#[Value.string m.name,Value.int .i64 m.args,Value.int .i64 m.temps,Value.int .i64 m.prim,Value.slice am m.code.length cm]:Array Value)[q]?:=fun q=>by rw[qzB gB']
    go_upto_if 62 with (fail)
    go_cut [8] (fun ms wz=>∃ (L cap2:Nat) (az:Option Addr) (csz:List Value),ms=.slice az L cap2/\Below (w.heap.size+3) W0 wz/\wz.ownsRow (w.heap.size+3) 59 5 (.slice az L cap2) L csz/\Cells xeP 5 (InP P w) w csz (xlP x.mz m)/\L=(xlP x.mz m).length)
    case first=>
     cases sd
     ·simp only[Bool.false_eq_true,if_false] at hlI
      go_wp2_with (at_builtin;refine wpList_append_lies _ rfl (.tmp 63) (.tmp 65) 69 rfl (w.heap.size+3) 59 i0 _ 5 64 Tryz.underlying69 hi hz0 hz1 hz2 rfl (by decide) _ sm.length cs rfl (hown.alloc _) ⟨_,0,none⟩ 1 1 [Value.string m.name,Value.int .i64 m.args,Value.int .i64 m.temps,Value.int .i64 m.prim,Value.slice am m.code.length cm] rfl rfl (fun j u hu=>(by rw[Addr.add_lit,Nat.zero_add];exact (xaa wr _ 59 _ rfl j).trans (by simpa using hu))) (by intro u hu;simp at hu;rcases hu with rfl | rfl | rfl | rfl | rfl<;>rfl) (by omega) (by unfold maxLen;omega) (by omega) (by simp;omega) _ rfl ?_;intro gg cap2 w2 hown2 hgr hor hlt2;have hb2:=xck hown hsz hgr)
      go_meet
      case rel=>exact⟨_,_,_,_,rfl,hbel.trans hb2,hown2,by rw[hlI];exact HCS.out.append xbn (xbL m _ hmn (xe7 hM)),by rw[hlI];simp⟩
     ·simp only[if_true] at hlI;go_wp2_with fail
      go_meet
      case rel=>exact⟨_,_,_,_,rfl,hbel,hown,by rw[hlI];exact HCS.out,by rw[hlI]⟩
    case rest=>
     obtain⟨L,cap2,az,csz,rfl,hbz,hownz,hcz,hL⟩:=hcut;clear gA' gB' mc hown hbel hbw hsz HCS;have hsz:w.heap.size+3<=wc.heap.size:=by have:=hbz.size;omega
     have hbw:Below w.heap.size w wc:=hBW.trans (hbz.mono (by omega))
     have gA':wc.heap[w.heap.size]?=some (.cells #[Value.slice (some ⟨b,o,none⟩) X.cz.length cap,Value.slice ah X.heap.length ch,Value.int .i64 X.ez] 25 (0,0)):=by rw[hbz.block _ (by omega)];exact gA
     have gC':wc.heap[w.heap.size+1+1]?=some (.cells #[Value.slice none 0 0,Value.slice none 0 0,Value.int .i64 0] 25 (0,0)):=by rw[hbz.block _ (by omega)];exact gC
     have ac:∀ q,wc.cell? ⟨w.heap.size,q,none⟩=(#[Value.slice (some ⟨b,o,none⟩) X.cz.length cap,Value.slice ah X.heap.length ch,Value.int .i64 X.ez]:Array Value)[q]?:=fun q=>by rw[qzB gA']
     have rc:∀ q,wc.cell? ⟨w.heap.size+1+1,q,none⟩=(#[Value.slice none 0 0,Value.slice none 0 0,Value.int .i64 0]:Array Value)[q]?:=fun q=>by rw[qzB gC']
     have rf:∀ q,wc.frozen? ⟨w.heap.size+1+1,q,none⟩=false:=fun q=>by unfold World.frozen?;simp[gC']
     have v3':=qzA hbw v3
     by_cases hmany:xcd x.mz m.name<0/\8<=x.mz.length
     ·have hsw':sw=false:=by rw[hsw.out];simpa using hmany.1
      subst hsw';have h8:(8:Int)<=(x.mz.length:Int):=by omega
      have HE:Hid (∀ W:World,Below w.heap.size w W->xnI P w X (q:Int) m (.slice ah X.heap.length ch) (.returned (.tuple #[WV (.slice none 0 0) (.slice none 0 0) 0,.int .i64 5])) W):=fun W h=>⟨Or.inr ⟨q,x,rfl,HX.out,Or.inl ⟨hmany.1,hmany.2,rfl⟩⟩,h⟩
      clear hsw;go_wp2;refine bodyPost_ret (v:=.tuple #[WV (.slice none 0 0) (.slice none 0 0) 0,.int .i64 5]) ?_ rfl (HE.out _ (xba hbw (by omega) _ _ _))
      simp[results,Tryz.results14,go_sem,rc,rf]
     ·have HN:Hid (¬ (xcd x.mz m.name<0/\8<=x.mz.length)):=hmany
      have hLlen:L*64<=140737488351232:=by
       rw[hL];unfold xlP
       split
       ·rw[List.length_set];omega
       ·have:x.mz.length<8:=by omega
        simp
        omega
      obtain⟨ccs,hcs,hsrc⟩:=RowAt.cells HROW.out xau;have HCC:Hid (Cells xec 4 P w ccs X.cz):=hcs;have HSRC:Hid (∀ j u,ccs[j]?=some u->∃ a,some (⟨b,o,none⟩:Addr)=some a/\w.cell? (a.add j)=some u):=hsrc;have hcl:=hcs.1
      have hMZ:Hid (xbj (fun b=>(P b/\b<w.heap.size\/w.heap.size+3<=b)/\b<wc.heap.size) wc (.slice az L cap2) (xlP x.mz m)):=
       xe3 xbn hownz (hcz.keep xbn (.of_below hbw) fun b hb=>⟨Or.inl hb,qzE hb.2 hbw.size⟩) hL.symm (fun b h1 h2=>⟨Or.inr h1,h2⟩) hLlen
      clear hcs hsrc hmany;have acx:=fun x q=>((xaj wc x).cell (p:=⟨w.heap.size,q,none⟩) (by simp;omega)).trans (ac q)
      have hgd:sw=false->decide (8<=(x.mz.length:Int))=false:=fun h=>by
       have:=hsw.out;rw[h] at this;have h1:¬ (0<=xcd x.mz m.name):=by simpa using this
       have:=HN.out
       simp
       omega
      obtain⟨u3,hu3⟩:∃ u,ccs[q*4+3]?=some u:=by
       obtain⟨u,hu,-⟩:=xau.there (HCC.out.2 q x HX.out) 3 (by omega)
       exact⟨u,hu⟩
      have HL:Hid (L=(xlP x.mz m).length):=hL;have HCU:Hid (ccs[q*4+3]?=some u3):=hu3;have afc:∀ q,wc.frozen? ⟨w.heap.size,q,none⟩=false:=fun q=>by unfold World.frozen?;simp[gA']
      clear hlI hL hsw hu3
      cases hsv:sw
      ·have hgd':=hgd hsv;clear hgd
       go_wp2_with (at_builtin;refine xbi rfl (.tmp 80) (.tmp 82) 22 71 zC 4 56 rfl Tryz.underlying22 xhP rfl (by decide) (by decide) wc.heap.size rfl (xbf _ _ _ rfl) (some ⟨b,o,none⟩) X.cz.length cap rfl ccs hcl (fun j u hu=>by obtain⟨a,e,h⟩:=HSRC.out j u hu;exact⟨a,e,qzA (xae hbw (xaj _ _)) h⟩) hby ?_;intro gA capA wA hownA hgA hgAl hbA;have hA:=xae (xaj _ _) hbA;have acA:=(fun q=>(hA.cell (p:=⟨w.heap.size,q,none⟩) (by simp;omega)).trans (ac q));have afA:=(fun q=>(hA.frozen (p:=⟨w.heap.size,q,none⟩) (by simp;omega)).trans (afc q));have rcA:=(fun q=>(hA.cell (p:=⟨w.heap.size+1+1,q,none⟩) (by simp;omega)).trans (rc q));have rfA:=(fun q=>(hA.frozen (p:=⟨w.heap.size+1+1,q,none⟩) (by simp;omega)).trans (rf q));have hgc:=xdQ hownA HCU.out;have hgf:=xeV hownA;have hgB:wc.heap.size<=gA:=(by rcases hgA with rfl | h;exact qzC _;simp at h;omega);have hne1:¬ gA=w.heap.size:=(by omega);have hne2:¬ w.heap.size=gA:=(by omega);have hne3:¬ gA=w.heap.size+1+1:=(by omega);have hne4:¬ w.heap.size+1+1=gA:=(by omega))
       obtain⟨hF,hFC⟩:=xjc (S1:=.slice (some ⟨gA,0,none⟩) X.cz.length capA) (S2:=.int .i64 (wrap64 (X.ez+1))) (S3:=.slice (some ⟨gA,0,none⟩) X.cz.length capA) (S4:=.slice ah X.heap.length ch) (S5:=.int .i64 (wrap64 (X.ez+1))) HX.out hbw hA hgB hsz hownA HCC.out hMZ.out hby;refine bodyPost_ret (v:=.tuple #[WV (.slice (some ⟨gA,0,none⟩) X.cz.length capA) (.slice ah X.heap.length ch) (xgj X.ez),.int .i64 0]) ?_ rfl ⟨Or.inr ⟨q,x,rfl,HX.out,Or.inr ⟨HN.out,_,rfl,hFC⟩⟩,hF⟩
       simp[results,Tryz.results14,go_sem,rcA,rfA,acA,afA,hne1,hne2,hne3,hne4,xgj]
      ·clear hgd
       go_wp2_with (at_builtin;refine xbi rfl (.tmp 80) (.tmp 82) 22 71 zC 4 56 rfl Tryz.underlying22 xhP rfl (by decide) (by decide) wc.heap.size rfl (xbf _ _ _ rfl) (some ⟨b,o,none⟩) X.cz.length cap rfl ccs hcl (fun j u hu=>by obtain⟨a,e,h⟩:=HSRC.out j u hu;exact⟨a,e,qzA (xae hbw (xaj _ _)) h⟩) hby ?_;intro gA capA wA hownA hgA hgAl hbA;have hA:=xae (xaj _ _) hbA;have acA:=(fun q=>(hA.cell (p:=⟨w.heap.size,q,none⟩) (by simp;omega)).trans (ac q));have afA:=(fun q=>(hA.frozen (p:=⟨w.heap.size,q,none⟩) (by simp;omega)).trans (afc q));have rcA:=(fun q=>(hA.cell (p:=⟨w.heap.size+1+1,q,none⟩) (by simp;omega)).trans (rc q));have rfA:=(fun q=>(hA.frozen (p:=⟨w.heap.size+1+1,q,none⟩) (by simp;omega)).trans (rf q));have hgc:=xdQ hownA HCU.out;have hgf:=xeV hownA;have hgB:wc.heap.size<=gA:=(by rcases hgA with rfl | h;exact qzC _;simp at h;omega);have hne1:¬ gA=w.heap.size:=(by omega);have hne2:¬ w.heap.size=gA:=(by omega);have hne3:¬ gA=w.heap.size+1+1:=(by omega);have hne4:¬ w.heap.size+1+1=gA:=(by omega))
       obtain⟨hF,hFC⟩:=xjc (S1:=.slice (some ⟨gA,0,none⟩) X.cz.length capA) (S2:=.int .i64 (wrap64 (X.ez+1))) (S3:=.slice (some ⟨gA,0,none⟩) X.cz.length capA) (S4:=.slice ah X.heap.length ch) (S5:=.int .i64 (wrap64 (X.ez+1))) HX.out hbw hA hgB hsz hownA HCC.out hMZ.out hby;refine bodyPost_ret (v:=.tuple #[WV (.slice (some ⟨gA,0,none⟩) X.cz.length capA) (.slice ah X.heap.length ch) (xgj X.ez),.int .i64 0]) ?_ rfl ⟨Or.inr ⟨q,x,rfl,HX.out,Or.inr ⟨HN.out,_,rfl,hFC⟩⟩,hF⟩
       simp[results,Tryz.results14,go_sem,rcA,rfA,acA,afA,hne1,hne2,hne3,hne4,xgj]
theorem xoJ:∀ j,j<5->∃ (s:ByteArray) (p:Int),(#[Value.string ⟨#[42]⟩,.string ⟨#[43]⟩,.string ⟨#[45]⟩,.string ⟨#[60]⟩,.string ⟨#[61]⟩]:Array Value)[j]?=some (.string s)/\(#[Value.int .i64 3,.int .i64 1,.int .i64 2,.int .i64 4,.int .i64 5]:Array Value)[j]?=some (.int .i64 p)/\xeI.take ((j+1)*5)=xeI.take (j*5)++[.string s,.int .i64 1,.int .i64 0,.int .i64 p,.slice none 0 0]:=by
 intro j hj
 match j,hj with
 | 0,_=>exact⟨_,_,rfl,rfl,rfl⟩
 | 1,_=>exact⟨_,_,rfl,rfl,rfl⟩
 | 2,_=>exact⟨_,_,rfl,rfl,rfl⟩
 | 3,_=>exact⟨_,_,rfl,rfl,rfl⟩
 | 4,_=>exact⟨_,_,rfl,rfl,rfl⟩
structure NewR (w:World)(j:Nat)(a:Option Addr)(k:Nat)(wr:World):Prop where
 bel:Below w.heap.size w wr
 cls:wr.heap[w.heap.size+1]?=some (.cells (xkk (.slice a j k)).toArray 71 (0,0))
 c0:wr.cell? ⟨w.heap.size+1+1,0,none⟩=some (.slice (some ⟨w.heap.size+1,0,none⟩) 4 4)
 c1:wr.cell? ⟨w.heap.size+1+1,1,none⟩=some (.slice none 0 0)
 c2:wr.cell? ⟨w.heap.size+1+1,2,none⟩=some (.int .i64 0)
 str:wr.heap[w.heap.size+1+1+1]?=some (.cells #[Value.string ⟨#[42]⟩,.string ⟨#[43]⟩,.string ⟨#[45]⟩,.string ⟨#[60]⟩,.string ⟨#[61]⟩] 9 (0,0))
 own:wr.ownsRow (w.heap.size+4) 59 5 (.slice a j k) j (xeI.take (j*5))
 size:w.heap.size+4<=wr.heap.size
 res:wr.heap[w.heap.size]?=some (.cells #[.slice none 0 0,.slice none 0 0,.int .i64 0] 25 (0,0))
theorem NewR.grown {w:World}{j:Nat}{a:Option Addr}{k:Nat}{wr w3:World}(h:NewR w j a k wr)(o1 o2:Obj)(hgr:((wr.alloc o1).alloc o2).drew.grownBy w3 (Value.ownBlock (.slice a j k))):Below (w.heap.size+4) wr w3:=by
 have hz:=h.size;refine (((Below.refl _ wr).alloc hz o1).alloc (by simp;omega) o2).drew.grown hgr (by simp;omega) (fun k' hk'=>?_)
 obtain⟨-,⟨e,-⟩ | ⟨g,c,cur,e,h1,-⟩⟩:=h.own
 ·rw[e] at hk';cases hk'
 ·rw[e] at hk'
  simp[Value.ownBlock] at hk'
  omega
theorem NewR.step {w:World}{j:Nat}{a:Option Addr}{k:Nat}{wr w3:World}{gg cap2:Nat}{cs:List Value}(h:NewR w j a k wr)(hb:Below (w.heap.size+4) wr w3)(hown2:w3.ownsRow (w.heap.size+4) 59 5 (.slice (some ⟨gg,0,none⟩) (j+1) cap2) (j+1) (xeI.take (j*5)++cs))(hcs:xeI.take (j*5)++cs=xeI.take ((j+1)*5)):NewR w (j+1) (some ⟨gg,0,none⟩) cap2 (w3.setCell ⟨w.heap.size+1,15,none⟩ (.slice (some ⟨gg,0,none⟩) (j+1) cap2)):=by
 have hz:=h.size;have hbs:=hb.size;have hcls:w3.heap[w.heap.size+1]?=some (.cells (xkk (.slice a j k)).toArray 71 (0,0)):=by rw[hb.block _ (by omega)];exact h.cls
 refine⟨(h.bel.trans (hb.mono (by omega))).setCell (by show w.heap.size<=w.heap.size+1;omega) _,?_,?_,?_,?_,?_,?_,?_,?_⟩
 ·rw[xah hcls];rfl
 ·rw[World.cell?_setCell_far _ _ _ _ (by simp),hb.cell (by simp)];exact h.c0
 ·rw[World.cell?_setCell_far _ _ _ _ (by simp),hb.cell (by simp)];exact h.c1
 ·rw[World.cell?_setCell_far _ _ _ _ (by simp),hb.cell (by simp)];exact h.c2
 ·rw[xac (by omega),hb.block _ (by omega)];exact h.str
 ·rw[hcs] at hown2
  exact ownsRow_setCell_below hown2 (by show w.heap.size+1<w.heap.size+4;omega) _
 ·rw[xa3];omega
 ·rw[xac (by omega),hb.block _ (by omega)];exact h.res
theorem xjk (w:World):Calls Tryz.prog 13 #[] w fun e w'=>∃ cv hv,e=.returned (WV cv hv 0)/\xaf (fun b=>w.heap.size<=b) w' cv xpj.cz/\xaA (fun b=>w.heap.size<=b) w' hv []/\Below w.heap.size w w':=by
 obtain⟨i0,hi,hz0,hz1,hz2⟩:=xbd xlS;go_enter Tryz.func13,Tryz.ntmps13;go_wp2
 go_loopg [12] 5 (fun g i wr=>∃ (j:Nat) (a:Option Addr) (k:Nat),j+g=5/\i=.int .i64 j/\NewR w j a k wr)
 case atStart=>
  refine⟨0,none,0,rfl,rfl,?_,?_,?_,?_,?_,?_,⟨rfl,Or.inl ⟨rfl,rfl⟩⟩,by simp,?_⟩
  ·exact (xeQ _ _ _ _).alloc (by simp;omega) _
  ·rw[(xbA _ _ _).block _ (by simp)];exact xbf _ _ _ (by simp)
  ·exact qzA (xaj _ _) (by rw[xaa _ _ _ _ (by simp)];rfl)
  ·exact qzA (xaj _ _) (by rw[xaa _ _ _ _ (by simp)];rfl)
  ·exact qzA (xaj _ _) (by rw[xaa _ _ _ _ (by simp)];rfl)
  ·exact xbf _ _ _ (by simp)
  ·rw[(xeQ _ _ _ _).block _ (by simp)];exact xbf _ _ _ (by simp)
 case round=>
  obtain⟨j,a,k,hg,rfl,hR⟩:=hrel;have HR:Hid (NewR w j a k wr):=hR;obtain⟨hB,hC,c0,c1,c2,hS,hown,hz,hO⟩:=hR;have hsc:∀ q,wr.cell? ⟨w.heap.size+1+1+1,q,none⟩=(#[Value.string ⟨#[42]⟩,.string ⟨#[43]⟩,.string ⟨#[45]⟩,.string ⟨#[60]⟩,.string ⟨#[61]⟩]:Array Value)[q]?:=fun q=>by rw[qzB hS]
  have hcc:wr.cell? ⟨w.heap.size+1,15,none⟩=some (.slice a j k):=by rw[qzB hC];rfl
  have hcf:∀ q,wr.frozen? ⟨w.heap.size+1,q,none⟩=false:=fun q=>by unfold World.frozen?;simp[hC]
  have hn1:w.heap.size+1<wr.heap.size:=by omega
  have hn2:w.heap.size+1+1<wr.heap.size:=by omega
  have hn3:w.heap.size+1+1+1<wr.heap.size:=by omega
  have hcc1:=fun x=>qzA (xaj wr x) hcc
  have hcc2:=fun x y=>qzA (xbA wr x y) hcc
  have c01:=fun x=>qzA (xaj wr x) c0
  have c02:=fun x y=>qzA (xbA wr x y) c0
  clear hS
  by_cases hj:j<5
  ·obtain⟨s,p,hs,hp,htk⟩:=xoJ j hj;obtain⟨g',rfl⟩:∃ g',gk=g'+1:=⟨gk-1,by omega⟩
   have hsj:wr.cell? ⟨w.heap.size+1+1+1,j,none⟩=some (.string s):=by rw[hsc];exact hs
   have hp':∀ h:j<[Value.int .i64 3,Value.int .i64 1,Value.int .i64 2,Value.int .i64 4,Value.int .i64 5].length,[Value.int .i64 3,Value.int .i64 1,Value.int .i64 2,Value.int .i64 4,Value.int .i64 5][j]'h=Value.int .i64 p:=fun h=>by
    rw[List.getElem_eq_iff]
    simpa using hp
   have hj5:(j:Int)<5:=by omega
   have hj0:(0:Int)<=(j:Int):=by omega
   clear hsc hs hp;go_wp2
   go_region_law (refine step_append_lies _ rfl (.tmp 23) (.tmp 30) 69 rfl (w.heap.size+4) 59 i0 _ 5 64 Tryz.underlying69 hi hz0 hz1 hz2 rfl (by decide) (.slice a j k) j (xeI.take (j*5)) (by simp[Act.eval,Act.put]) (show World.ownsRow (World.alloc _ _) _ _ _ _ _ _ from (hown.alloc _).alloc _) ⟨wr.heap.size+1,0,none⟩ 1 1 [.string s,.int .i64 1,.int .i64 0,.int .i64 p,.slice none 0 0] (by simp[Act.eval,Act.put]) rfl (fun q u hu=>by rw[Addr.add_lit,Nat.zero_add];exact (xaa (World.alloc wr _) _ 59 _ (by simp) q).trans (by simpa using hu)) (by intro u hu;simp at hu;rcases hu with rfl | rfl | rfl | rfl | rfl<;>rfl) (by omega) (by unfold maxLen;omega) (by omega) (by simp;omega) _ rfl ?_;intro gg cap2 w2 hown2 hgr hor hlt2;have hfz:w2.frozen? ⟨w.heap.size+1,15,none⟩=false:=((HR.out.grown _ _ hgr).frozen (by simp)).trans (hcf 15);have hcl:w2.cell? ⟨w.heap.size+1,15,none⟩=some (.slice a j k):=((HR.out.grown _ _ hgr).cell (by simp)).trans hcc;have c02:w2.cell? ⟨w.heap.size+1+1,0,none⟩=some (.slice (some ⟨w.heap.size+1,0,none⟩) 4 4):=((HR.out.grown _ _ hgr).cell (by simp)).trans c0)
   all_goals
    go_wp2
    go_roundg g'
    case measure=>omega
    case rel=>exact⟨j+1,some ⟨gg,0,none⟩,cap2,by omega,by go_num,HR.out.step (HR.out.grown _ _ hgr) hown2 htk.symm⟩
  ·obtain rfl:gk=0:=by omega
   obtain rfl:j=5:=by omega
   have hrc:∀ q,wr.cell? ⟨w.heap.size,q,none⟩=(#[Value.slice none 0 0,Value.slice none 0 0,Value.int .i64 0]:Array Value)[q]?:=fun q=>by rw[qzB hO]
   have hrf:∀ q,wr.frozen? ⟨w.heap.size,q,none⟩=false:=fun q=>by unfold World.frozen?;simp[hO]
   go_wp2;refine bodyPost_ret (v:=WV (.slice (some ⟨w.heap.size+1,0,none⟩) 4 4) (.slice none 0 0) 0) ?_ rfl ⟨_,_,rfl,?_,xbk,xba hB (qzC _) _ _ _⟩
   ·simp[results,Tryz.results13,go_sem,hrc,hrf]
   ·have hM:xbj (fun b=>w.heap.size+1<=b) wr (.slice a 5 k) xfP:=by
     obtain⟨-,⟨e,h0⟩ | ⟨g,c,cur,e,h1,h2,h3,h4,h5,h6⟩⟩:=hown
     ·cases h0
     ·cases e
      exact Cells.row xj7 xbn (by omega) h2 h6 h3 h4 (by decide)
    have hR:xaf (fun b=>w.heap.size+1<=b) wr (.slice (some ⟨w.heap.size+1,0,none⟩) 4 4) xho:=Cells.row (xjw hM) xau (by omega) hC rfl (by decide) (by unfold maxLen;omega) (by decide)
    exact hR.keep xau (xax (xax (xax (Keeps.refl _ _) (by omega) _) (by omega) _) (by omega) _) (fun b hb=>by omega)
theorem xiU {α:Type}{E:Lay α}{sz bytes:Nat}(G:Good E sz)(hE:∀ {P:Nat->Prop} {w:World} {f:Nat->Option Value} {x:α},E P w f x->E (In w) w f x){P:Nat->Prop}{w:World}{v:Value}{xs:List α}(h:IsRow E sz bytes P w v xs):IsRow E sz bytes (In w) w v xs:=by
 obtain⟨ad,cap,h1,h2,h3,h4,h5⟩:=h;refine⟨ad,cap,h1,h2,h3,h4,fun i x hx=>?_⟩
 obtain⟨b,o,e1,-,e3⟩:=h5 i x hx;obtain⟨u,hu,-⟩:=G.there e3 0 G.pos
 exact⟨b,o,e1,World.block_lt_of_cell? w _ hu,hE e3⟩
theorem xmD {P:Nat->Prop}{w:World}{v:Value}{xs:List QM}(h:xbj P w v xs):xbj (In w) w v xs:=
 xiU xbn (fun ⟨h0,h1,h2,h3,h4,v,h5,h6⟩=>⟨h0,h1,h2,h3,h4,v,h5,(xe7 h6).mono xaV fun _ h=>h.2⟩) h
theorem xjK {P:Nat->Prop}{w:World}{v:Value}{xs:List QC}(h:xaf P w v xs):xaf (In w) w v xs:=
 xiU xau (fun ⟨h0,h1,h2,h3,v,h5,h6⟩=>⟨h0,h1,h2,h3,v,h5,xmD h6⟩) h
theorem xoN {P:Nat->Prop}{w:World}{v:Value}{xs:List QV}(h:xaG P w v xs):xaG (In w) w v xs:=xiU xaS (fun h=>h) h
theorem xny {P:Nat->Prop}{w:World}{v:Value}{xs:List QO}(h:xaA P w v xs):xaA (In w) w v xs:=
 xiU xaz (fun ⟨h0,v,h5,h6⟩=>⟨h0,v,h5,xoN h6⟩) h
def a9G:QM:=⟨⟨#[103]⟩,0,0,0,[⟨5,7,0,0,⟨#[]⟩⟩,⟨17,0,0,0,⟨#[]⟩⟩]⟩
def a9M:QM:=⟨⟨#[109]⟩,0,0,0,[⟨1,0,0,0,⟨#[]⟩⟩,⟨14,0,0,0,⟨#[103]⟩⟩,⟨17,0,0,0,⟨#[]⟩⟩]⟩
def a9X (ms:List QM)(ep:Int):QW:=⟨xho++[⟨⟨#[65]⟩,0,0,ms⟩],[],ep⟩
theorem xpx:xcs xpj.cz ⟨#[65]⟩ 0 0=0:=by kernel_rfl
theorem xiM {xs:List QC}(h:xs.all (fun x=>decide (0<=x.slots) && decide (x.slots<=6))=true):xbJ xs:=fun i x hx=>by
 have:=List.all_eq_true.1 h x (List.mem_of_getElem? hx)
 simpa using this
theorem xpJ:xbJ xpj.cz:=xiM (by kernel_rfl)
theorem xpu:xhF (a9X [] 0) 4 ⟨⟨#[65]⟩,0,0,[]⟩ a9G=a9X [a9G] 1:=by kernel_rfl
theorem xpE:xhF (a9X [a9G] 1) 4 ⟨⟨#[65]⟩,0,0,[a9G]⟩ a9M=a9X [a9G,a9M] 2:=by kernel_rfl
def xjl:List QM->Bool
 | []=>true
 | [_]=>true
 | a :: b :: r=>ltN a.name b.name && xjl (b :: r)
theorem xhf:∀ {xs:List QM},xjl xs=true->RisesM xs
 | [],_=>fun i x y hx _=>by simp at hx
 | [a],_=>fun i x y hx hy=>by simp at hy
 | a :: b :: r,h=>fun i x y hx hy=>by
  unfold xjl at h;simp only[Bool.and_eq_true] at h
  cases i with
  | zero=>simp at hx hy;subst hx hy;exact h.1
  | succ i=>exact xhf h.2 i x y (by simpa using hx) (by simpa using hy)
theorem xgd {xs:List QC}(h:xs.all (fun x=>xjl x.mz)=true):xhK xs:=fun i x hx=>xhf (List.all_eq_true.1 h x (List.mem_of_getElem? hx))
theorem xpz:xhK (a9X [] 0).cz:=xgd (by kernel_rfl)
theorem xpD:xhK (a9X [a9G] 1).cz:=xgd (by kernel_rfl)
theorem xoX {P:Nat->Prop}(cv hv:Value)(w:World)(hh:xaf P w cv xpj.cz)(hH:xaA P w hv []):Calls Tryz.prog 12 #[WV cv hv 0,.string ⟨#[65]⟩,.int .i64 0,.int .i64 0] w fun e w'=>∃ a k,e=.returned (.tuple #[WV (.slice a 5 k) hv 0,.int .i64 4,.int .i64 0])/\xaf (In w') w' (.slice a 5 k) (a9X [] 0).cz/\xaA (In w') w' hv []/\Below w.heap.size w w':=by
 refine (xlR xpj ⟨#[65]⟩ 0 0 cv hv w (by decide) hh hH xpJ).mono ?_
 rintro e w' ⟨⟨h,-⟩ | ⟨h,cv',rfl,hC⟩,hb⟩
 ·exact absurd xpx h
 ·obtain⟨a,k,rfl⟩:=hC.get
  exact⟨a,k,rfl,xjK hC,xny (hH.later xaz hb),hb⟩
theorem xnf {P:Nat->Prop}(X Y:QW)(x:QC)(m:QM)(cv hv mv:Value)(w:World)(ep:Int)(hep:X.ez=ep)(ep':Int)(hep':Y.ez=ep')(hx:X.cz[4]?=some x)(hno:¬ (xcd x.mz m.name<0/\8<=x.mz.length))(hY:xhF X 4 x m=Y)(hl:Y.cz.length=5)(hn:m.name.size<=140737488351232)(hR:xhK X.cz)(hXh:X.heap=[])
  (hh:xaf P w cv X.cz) (hH:xaA P w hv []) (hM:xaK P w mv m.code):Calls Tryz.prog 14 #[WV cv hv ep,.int .i64 4,MV m mv] w fun e w'=>∃ a k,e=.returned (.tuple #[WV (.slice a 5 k) hv ep',.int .i64 0])/\xaf (fun b=>P b\/w.heap.size<=b) w' (.slice a 5 k) Y.cz/\Below w.heap.size w w':=by
 subst hep hep';refine (xg4 X 4 m cv hv mv w hh (by rw[hXh];exact hH) hM hn hR).mono ?_
 rintro e w' ⟨⟨h,-⟩ | ⟨k,x',hk,hx',h⟩,hb⟩
 ·have:=xag hx
  simp[xfM] at h
  omega
 ·obtain rfl:k=4:=by omega
  rw[hx] at hx';cases hx'
  rcases h with ⟨h1,h2,-⟩ | ⟨-,cv',rfl,hC⟩
  ·exact absurd ⟨h1,h2⟩ hno
  ·rw[hY] at hC;obtain⟨a,k',rfl⟩:=hC.get;rw[hl] at hC ⊢;refine⟨a,k',?_,hC,hb⟩;rw[← hY];rfl
theorem xps {α:Type}{E:Lay α}{sz bytes:Nat}(G:Good E sz){P:Nat->Prop}(w:World)(cs:List Value)(t:TypeId)(xs:List α)(h:∀ w',Cells E sz P w' cs xs)(hP:P w.heap.size)(hs:xs.length*bytes<=140737488351232)(hm:xs.length<=maxLen):IsRow E sz bytes P (w.alloc (.cells cs.toArray t)) (.slice (some ⟨w.heap.size,0,none⟩) xs.length xs.length) xs:=
 Cells.row (h _) G hP (heap_alloc_new w _) (by rw[List.take_of_length_le (by simp[(h w).1])]) (qzC _) hm hs
def a9Gc:List Value:=[.int .i64 5,.int .i64 7,.int .i64 0,.int .i64 0,.string ⟨#[]⟩,.int .i64 17,.int .i64 0,.int .i64 0,.int .i64 0,.string ⟨#[]⟩]
def a9Mc:List Value:=[.int .i64 1,.int .i64 0,.int .i64 0,.int .i64 0,.string ⟨#[]⟩,.int .i64 14,.int .i64 0,.int .i64 0,.int .i64 0,.string ⟨#[103]⟩,.int .i64 17,.int .i64 0,.int .i64 0,.int .i64 0,.string ⟨#[]⟩]
theorem xdg {P:Nat->Prop}{w:World}(x:QI)(h:x.name.size<=140737488351232):Cells xea 5 P w [.int .i64 x.op,.int .i64 x.a,.int .i64 x.b,.int .i64 x.c,.string x.name] [x]:=
 Cells.one xaV rfl ⟨rfl,rfl,rfl,rfl,rfl,h⟩
theorem xk9 {P:Nat->Prop}(w:World):Cells xea 5 P w a9Gc a9G.code:=
 (xdg (w:=w) ⟨5,7,0,0,⟨#[]⟩⟩ (by decide)).append xaV (xdg ⟨17,0,0,0,⟨#[]⟩⟩ (by decide))
theorem xlf {P:Nat->Prop}(w:World):Cells xea 5 P w a9Mc a9M.code:=
 ((xdg (w:=w) ⟨1,0,0,0,⟨#[]⟩⟩ (by decide)).append xaV (xdg ⟨14,0,0,0,⟨#[103]⟩⟩ (by decide))).append xaV (xdg ⟨17,0,0,0,⟨#[]⟩⟩ (by decide))
theorem bxl {w w':World}{B:Nat}{o:Obj}(h:w.heap[B]?=some o)(hb:Below w.heap.size w w'):w'.heap[B]?=some o:=by rw[hb.block _ (xai h)];exact h
theorem xmF {w:World}{B:Nat}{x y z u v r:Value}{t:TypeId}(h:w.heap[B]?=some (.cells #[x,y,z] t (0,0))):(((w.setCell ⟨B,0,none⟩ u).setCell ⟨B,1,none⟩ v).setCell ⟨B,2,none⟩ r).heap[B]?=some (.cells #[u,v,r] t (0,0)):=by
 rw[xah (xah (xah h _) _) _];rfl
structure A9 (w:World)(B:Nat)(cv hv:Value)(X:QW)(w':World):Prop where
 box:w'.heap[B]?=some (.cells #[cv,hv,.int .i64 X.ez] 25 (0,0))
 C:xaf (fun b=>b≠B) w' cv X.cz
 H:xaA (fun b=>b≠B) w' hv []
 bel:Below w.heap.size w w'
theorem A9.later {w:World}{B:Nat}{cv hv:Value}{X:QW}{w' w'':World}(h:A9 w B cv hv X w')(hb:Below w'.heap.size w' w''):A9 w B cv hv X w'':=
 ⟨bxl h.box hb,h.C.later xau hb,h.H.later xaz hb,xae h.bel hb⟩
theorem A9.set {w:World}{B:Nat}{cv hv cv':Value}{X Y:QW}{w1 w':World}(h:A9 w B cv hv X w1)(hb:Below w1.heap.size w1 w')(hC:xaf (fun b=>b≠B\/w1.heap.size<=b) w' cv' Y.cz)(hB:w.heap.size<=B):A9 w B cv' hv Y (((w'.setCell ⟨B,0,none⟩ cv').setCell ⟨B,1,none⟩ hv).setCell ⟨B,2,none⟩ (.int .i64 Y.ez)):=by
 have hk:Keeps (fun b=>b≠B) w' (((w'.setCell ⟨B,0,none⟩ cv').setCell ⟨B,1,none⟩ hv).setCell ⟨B,2,none⟩ (.int .i64 Y.ez)):=
  xax (xax (xax (Keeps.refl _ _) (by simp) _) (by simp) _) (by simp) _
 have hlt:=xai h.box;refine⟨xmF (bxl h.box hb),(hC.mono (Q:=fun b=>b≠B) xau fun b hb=>?_).keep xau hk fun _ h=>h,(h.H.later xaz hb).keep xaz hk fun _ h=>h,xba (xae h.bel hb) hB _ _ _⟩
 rcases hb with h | h
 ·exact h
 ·omega
abbrev a9Z:QW:=⟨(a9X [a9G,a9M] 2).cz,[⟨4,[]⟩],2⟩
theorem xgI:xaW a9Z=0:=by kernel_rfl
def a9T:List QT:=[⟨⟨4,⟨#[109]⟩,1⟩,[⟨4,9⟩]⟩]
theorem xo0:(xev a9Z a9T 5).length=1:=by kernel_rfl
theorem xok:((xev a9Z a9T 5)[0]?.map Fst.name)=some ⟨#[109]⟩:=by kernel_rfl
theorem xpl:(xio (xel a9Z 9 (xcS a9Z (epB a9Z) (xev a9Z a9T 5))) a9Z () ⟨4,0⟩ ⟨#[109]⟩ [] 9).1=⟨[⟨4,[]⟩],⟨3,7⟩,0,2⟩:=by kernel_rfl
theorem xnG:(xev a9Z a9T 5).all (xnR a9Z)=true:=by kernel_rfl
theorem xpf (w:World):(binOp .eql 37 (RnV ⟨[⟨4,[]⟩],⟨3,7⟩,0,2⟩) (RnV ⟨[⟨4,[]⟩],⟨3,7⟩,0,2⟩)).run Tryz.prog w=.ok (.bool true) w:=by rw[eqlR,xjo]
theorem xpF {P R:Nat->Prop}{l:List Fst}(hl:l=xev a9Z a9T 5)(cv hv fv:Value)(w:World)(hC:xaf P w cv a9Z.cz)(hH:xaA P w hv a9Z.heap)(hF:xcG R w fv l) :
  Calls Tryz.prog 8 #[WV cv hv 2,ClV ⟨4,0⟩ ⟨#[109]⟩ (.slice none 0 0),.int .i64 9,fv] w fun e w'=>PlPost w a9Z ⟨[⟨4,[]⟩],⟨3,7⟩,0,2⟩ e w':=by
 subst hl
 exact xno (Q:=fun _=>True) a9Z xgI ⟨4,0⟩ ⟨#[109]⟩ [] 9 (xgY xgI fun f hf _=>List.all_eq_true.1 xnG f hf) _ xpl cv hv (.slice none 0 0) fv w hC hH xbk hF (by decide)
theorem xih (w:World):Calls Tryz.prog 5 #[] w fun e w'=>e=.returned (.bool true)/\Below w.heap.size w w':=by
 go_enter Tryz.func5,Tryz.ntmps5;go_wp2_with fail;refine (xjk _).mono ?_;rintro e w1 ⟨cv,hv,rfl,hC,hH,hB⟩;obtain⟨x1,y1,rfl⟩:=hC.get;obtain⟨x2,y2,rfl⟩:=hH.get;go_wp2_with fail;refine (xoX _ _ _ hC hH).mono ?_;rintro e w2 ⟨a1,k1,rfl,hC1,hH1,hb⟩;replace hB:=xae hB hb;clear hb hC hH
 have hA0:A9 w w2.heap.size (.slice a1 5 k1) (.slice x2 0 y2) (a9X [] 0) (w2.alloc (.cells #[.slice a1 5 k1,.slice x2 0 y2,.int .i64 0] 25)):=
  ⟨heap_alloc_new _ _,(hC1.later xau (xaj _ _)).mono xau fun b h=>by have h':b<w2.heap.size:=h;omega,(hH1.later xaz (xaj _ _)).mono xaz fun b h=>by have h':b<w2.heap.size:=h;omega,xae hB (xaj _ _)⟩
 have hz:w.heap.size<=w2.heap.size:=hB.size;clear hB hC1 hH1
 go_upto_region 2 with (fail)
 generalize (w2.alloc (.cells #[.slice a1 5 k1,.slice x2 0 y2,.int .i64 0] 25))=W3 at *;generalize w2.heap.size=B at *;obtain⟨⟨q0,q1,q2⟩,qf⟩:=xj3 hA0.box;have hlt:=xai hA0.box
 have hG:xaK (fun b=>b≠B) (W3.alloc (.cells #[.int .i64 5,.int .i64 7,.int .i64 0,.int .i64 0,.string ⟨#[]⟩,.int .i64 17,.int .i64 0,.int .i64 0,.int .i64 0,.string ⟨#[]⟩] 57)) (.slice (some ⟨W3.heap.size,0,none⟩) 2 2) a9G.code:=
  xps xaV W3 a9Gc 57 a9G.code (fun w'=>xk9 w') (by omega) (by decide) (by decide)
 have hb3:=xaj W3 (.cells #[.int .i64 5,.int .i64 7,.int .i64 0,.int .i64 0,.string ⟨#[]⟩,.int .i64 17,.int .i64 0,.int .i64 0,.int .i64 0,.string ⟨#[]⟩] 57);replace hA0:=hA0.later hb3;go_wp2_with fail;clear q0 q1 q2 qf;refine (xnf (a9X [] 0) (a9X [a9G] 1) ⟨⟨#[65]⟩,0,0,[]⟩ a9G _ _ _ _ 0 rfl 1 rfl rfl (by simp) xpu rfl (by decide) xpz rfl hA0.C hA0.H hG).mono ?_
 rintro e w4 ⟨a2,k2,rfl,hC2,hb4⟩;have hA1:A9 w B (.slice a2 5 k2) (.slice x2 0 y2) (a9X [a9G] 1) (((w4.setCell ⟨B,0,none⟩ (.slice a2 5 k2)).setCell ⟨B,1,none⟩ (.slice x2 0 y2)).setCell ⟨B,2,none⟩ (.int .i64 1)):=hA0.set (Y:=a9X [a9G] 1) hb4 hC2 hz;obtain⟨⟨q0,q1,q2⟩,qf⟩:=xj3 (bxl hA0.box hb4);clear hC2 hG hA0 hb4 hb3 hlt
 go_upto_region 3 with (fail)
 generalize (((w4.setCell ⟨B,0,none⟩ (.slice a2 5 k2)).setCell ⟨B,1,none⟩ (.slice x2 0 y2)).setCell ⟨B,2,none⟩ (.int .i64 1))=W5 at *;clear q0 q1 q2 qf;obtain⟨⟨q0,q1,q2⟩,qf⟩:=xj3 hA1.box;have hlt:=xai hA1.box
 have hG:xaK (fun b=>b≠B) (W5.alloc (.cells #[.int .i64 1,.int .i64 0,.int .i64 0,.int .i64 0,.string ⟨#[]⟩,.int .i64 14,.int .i64 0,.int .i64 0,.int .i64 0,.string ⟨#[103]⟩,.int .i64 17,.int .i64 0,.int .i64 0,.int .i64 0,.string ⟨#[]⟩] 57)) (.slice (some ⟨W5.heap.size,0,none⟩) 3 3) a9M.code:=
  xps xaV W5 a9Mc 57 a9M.code (fun w'=>xlf w') (by omega) (by decide) (by decide)
 have hb5:=xaj W5 (.cells #[.int .i64 1,.int .i64 0,.int .i64 0,.int .i64 0,.string ⟨#[]⟩,.int .i64 14,.int .i64 0,.int .i64 0,.int .i64 0,.string ⟨#[103]⟩,.int .i64 17,.int .i64 0,.int .i64 0,.int .i64 0,.string ⟨#[]⟩] 57);replace hA1:=hA1.later hb5;go_wp2_with fail;clear q0 q1 q2 qf;refine (xnf (a9X [a9G] 1) (a9X [a9G,a9M] 2) ⟨⟨#[65]⟩,0,0,[a9G]⟩ a9M _ _ _ _ 1 rfl 2 rfl rfl (by simp) xpE rfl (by decide) xpD rfl hA1.C hA1.H hG).mono ?_
 rintro e w6 ⟨a3,k3,rfl,hC3,hb6⟩;have hA2:A9 w B (.slice a3 5 k3) (.slice x2 0 y2) (a9X [a9G,a9M] 2) (((w6.setCell ⟨B,0,none⟩ (.slice a3 5 k3)).setCell ⟨B,1,none⟩ (.slice x2 0 y2)).setCell ⟨B,2,none⟩ (.int .i64 2)):=hA1.set (Y:=a9X [a9G,a9M] 2) hb6 hC3 hz;obtain⟨⟨q0,q1,q2⟩,qf⟩:=xj3 (bxl hA1.box hb6);clear hC3 hG hA1 hb5 hb6 hlt
 go_upto_region 4 with (fail)
 generalize (((w6.setCell ⟨B,0,none⟩ (.slice a3 5 k3)).setCell ⟨B,1,none⟩ (.slice x2 0 y2)).setCell ⟨B,2,none⟩ (.int .i64 2))=W7 at *;clear q0 q1 q2 qf;have hb7:=xaj W7 (.cells #[.int .i64 4,.slice none 0 0] 61);obtain⟨⟨q0,q1,q2⟩,qf⟩:=xj3 hA2.box;have hlt:=xai hA2.box
 have hHp:xaA (fun b=>b≠B) (W7.alloc (.cells #[.int .i64 4,.slice none 0 0] 61)) (.slice (some ⟨W7.heap.size,0,none⟩) 1 1) [⟨4,[]⟩]:=
  xps xaz W7 [.int .i64 4,.slice none 0 0] 61 [⟨4,[]⟩] (fun w'=>Cells.one xaz rfl ⟨rfl,_,rfl,xbk⟩) (by omega) (by decide) (by decide)
 replace hA2:=hA2.later hb7;obtain⟨⟨q0',q1',q2'⟩,qf'⟩:=xj3 hA2.box;have hk:Keeps (fun b=>b≠B) (W7.alloc (.cells #[.int .i64 4,.slice none 0 0] 61)) ((W7.alloc (.cells #[.int .i64 4,.slice none 0 0] 61)).setCell ⟨B,1,none⟩ (.slice (some ⟨W7.heap.size,0,none⟩) 1 1)):=xax (Keeps.refl _ _) (by simp) _
 have hbx:((W7.alloc (.cells #[.int .i64 4,.slice none 0 0] 61)).setCell ⟨B,1,none⟩ (.slice (some ⟨W7.heap.size,0,none⟩) 1 1)).heap[B]?=some (.cells #[.slice a3 5 k3,.slice (some ⟨W7.heap.size,0,none⟩) 1 1,.int .i64 2] 25 (0,0)):=by
  rw[xah hA2.box];rfl
 have hCz:=hA2.C.keep xau hk fun _ h=>h
 have hHz:=hHp.keep xaz hk fun _ h=>h
 have hbel:Below w.heap.size w ((W7.alloc (.cells #[.int .i64 4,.slice none 0 0] 61)).setCell ⟨B,1,none⟩ (.slice (some ⟨W7.heap.size,0,none⟩) 1 1)):=hA2.bel.setCell (by simpa using hz) _
 clear hA2 hHp hk hb7
 go_upto_region 5 with (fail)
 rw[World.setCell_alloc_past _ _ _ _ hlt] at hbx hCz hHz hbel;generalize ((W7.setCell ⟨B,1,none⟩ (.slice (some ⟨W7.heap.size,0,none⟩) 1 1)).alloc (.cells #[.int .i64 4,.slice none 0 0] 61))=F at *;generalize W7.heap.size=gO at *;clear q0 q1 q2 qf q0' q1' q2' qf';obtain⟨⟨q0,q1,q2⟩,qf⟩:=xj3 hbx
 have hT:xbq (fun _=>True) ((F.alloc (.cells #[.int .i64 4,.int .i64 9] 65)).alloc (.cells #[.int .i64 4,.string ⟨#[109]⟩,.int .i64 1,.slice (some ⟨F.heap.size,0,none⟩) 1 1] 68)) (.slice (some ⟨F.heap.size+1,0,none⟩) 1 1) a9T:=by
  have hL:∀ w',Below (F.alloc (.cells #[.int .i64 4,.int .i64 9] 65)).heap.size (F.alloc (.cells #[.int .i64 4,.int .i64 9] 65)) w'->xej (fun _=>True) w' (.slice (some ⟨F.heap.size,0,none⟩) 1 1) [⟨4,9⟩]:=fun w' hb=>(xps xfR F [.int .i64 4,.int .i64 9] 65 [⟨4,9⟩] (fun w'=>Cells.one xfR rfl ⟨rfl,rfl⟩) trivial (by decide) (by decide)).later xfR hb
  have hg:((F.alloc (.cells #[.int .i64 4,.int .i64 9] 65)).alloc (.cells #[.int .i64 4,.string ⟨#[109]⟩,.int .i64 1,.slice (some ⟨F.heap.size,0,none⟩) 1 1] 68)).heap[F.heap.size+1]?=some (.cells #[.int .i64 4,.string ⟨#[109]⟩,.int .i64 1,.slice (some ⟨F.heap.size,0,none⟩) 1 1] 68 (0,0)):=by
   have:=heap_alloc_new (F.alloc (.cells #[.int .i64 4,.int .i64 9] 65)) (.cells #[.int .i64 4,.string ⟨#[109]⟩,.int .i64 1,.slice (some ⟨F.heap.size,0,none⟩) 1 1] 68)
   simpa using this
  have hc:∀ k,((F.alloc (.cells #[.int .i64 4,.int .i64 9] 65)).alloc (.cells #[.int .i64 4,.string ⟨#[109]⟩,.int .i64 1,.slice (some ⟨F.heap.size,0,none⟩) 1 1] 68)).cell? ⟨F.heap.size+1,k,none⟩=(#[.int .i64 4,.string ⟨#[109]⟩,.int .i64 1,.slice (some ⟨F.heap.size,0,none⟩) 1 1]:Array Value)[k]?:=fun k=>qzB hg
  refine⟨_,_,rfl,by decide,by decide,by decide,fun i x hx=>⟨F.heap.size+1,0,rfl,trivial,?_⟩⟩
  match i,hx with
  | 0,hx=>cases hx;exact⟨hc 0,hc 1,hc 2,.slice (some ⟨F.heap.size,0,none⟩) 1 1,hc 3,hL _ (xaj _ _)⟩
  | i+1,hx=>simp[a9T] at hx
 have hb8:=xbA F (.cells #[.int .i64 4,.int .i64 9] 65) (.cells #[.int .i64 4,.string ⟨#[109]⟩,.int .i64 1,.slice (some ⟨F.heap.size,0,none⟩) 1 1] 68);have hbx2:=bxl hbx hb8;have hC2:=hCz.later xau hb8;have hH2:=hHz.later xaz hb8;have hbel2:=xae hbel hb8;clear hbx hCz hHz hbel hb8;go_wp2_with fail;refine (xmY a9Z xgI a9T _ _ _ _ hC2 hH2 hT).mono ?_;rintro e w8 ⟨a,cap,rfl,hFs,hb9⟩;have hl1:(xev a9Z a9T a9Z.cz.length).length=1:=xo0;have hL:Hid (xev a9Z a9T a9Z.cz.length=xev a9Z a9T 5):=hid rfl;have hnm:((xev a9Z a9T a9Z.cz.length)[0]?.map Fst.name)=some ⟨#[109]⟩:=xok;generalize xev a9Z a9T a9Z.cz.length=L at *
 rw[hl1] at hFs ⊢;have hbel3:=xae hbel2 hb9;have hbx3:=bxl hbx2 hb9;have hC3:=hC2.later xau hb9;have hH3:=hH2.later xaz hb9;clear q0 q1 q2 qf hbx2 hC2 hH2 hbel2 hT hb9;obtain⟨⟨q0,q1,q2⟩,qf⟩:=xj3 hbx3;go_wp2_with fail;refine (xpF hL.out _ _ _ w8 hC3 hH3 hFs).mono ?_;rintro e wA ⟨hb10,cvA,hvA,rfl,hCA,hHA⟩;obtain⟨f1,f2,rfl⟩:∃ a c,cvA=.slice a 5 c:=hCA.get;obtain⟨f3,f4,rfl⟩:∃ a c,hvA=.slice a 1 c:=hHA.get;obtain⟨a',cap',e',h1,h2,-,hrow⟩:=id hFs;simp only[Value.slice.injEq] at e';obtain⟨rfl,-,rfl⟩:=e'
 obtain⟨y,hy0⟩:∃ y,L[0]?=some y:=by cases h:L[0]? with
  | none=>rw[h] at hnm;cases hnm
  | some y=>exact⟨y,rfl⟩
 have hyn:y.name=⟨#[109]⟩:=by rw[hy0] at hnm;simpa using hnm
 obtain⟨g,o,rfl,-,-,y1,-⟩:=hrow 0 y hy0;simp only[Nat.zero_mul,Nat.add_zero] at y1;rw[hyn] at y1;have hb11:=xbA wA (.cells #[.slice f1 5 f2,.slice f3 1 f4,.int .i64 2] 25) (.cells #[.int .i64 3,.int .i64 7,.int .i64 0,.int .i64 2] 37);have z1:=qzA hb11 (qzA hb10 y1);have hbel4:=xae (xae hbel3 hb10) hb11
 have hrB:((wA.alloc (.cells #[.slice f1 5 f2,.slice f3 1 f4,.int .i64 2] 25)).alloc (.cells #[.int .i64 3,.int .i64 7,.int .i64 0,.int .i64 2] 37)).heap[wA.heap.size+1]?=some (.cells #[.int .i64 3,.int .i64 7,.int .i64 0,.int .i64 2] 37 (0,0)):=by
  have:=heap_alloc_new (wA.alloc (.cells #[.slice f1 5 f2,.slice f3 1 f4,.int .i64 2] 25)) (.cells #[.int .i64 3,.int .i64 7,.int .i64 0,.int .i64 2] 37)
  simpa using this
 clear q0 q1 q2 qf;dsimp only
 go_upto_region 7 with (fail)
 generalize ((wA.alloc (.cells #[.slice f1 5 f2,.slice f3 1 f4,.int .i64 2] 25)).alloc (.cells #[.int .i64 3,.int .i64 7,.int .i64 0,.int .i64 2] 37))=U at *;have r0:U.cell? ⟨wA.heap.size+1,0,none⟩=some (.int .i64 3):=by rw[qzB hrB];rfl
 have r1:U.cell? ⟨wA.heap.size+1,1,none⟩=some (.int .i64 7):=by rw[qzB hrB];rfl
 have r2:U.cell? ⟨wA.heap.size+1,2,none⟩=some (.int .i64 0):=by rw[qzB hrB];rfl
 have r3:U.cell? ⟨wA.heap.size+1,3,none⟩=some (.int .i64 2):=by rw[qzB hrB];rfl
 have hq:=xpf;clear hrB hCA hHA hFs hrow;go_wp2
 go_ret
 exact⟨rfl,hbel4⟩
theorem xmr {w:World}{l:List Int}(hl:l.length<=1000)(n:Nat)(hn:w.heap.size=n):xcL (fun b=>n<=b) (w.alloc (.cells (xbS l).toArray 3 (0,0))) (.slice (some ⟨n,0,none⟩) l.length l.length) l:=
 Cells.row (xgG l) xhV (qzC _) (xbf _ _ _ hn) (by rw[List.take_of_length_le (by simp[xbS])];simp[xbS]) (qzC _) (by unfold maxLen;omega) (by omega)
def NextP (w:World)(x:QI)(p:Int)(e:Ending)(w':World):Prop:=
 ∃ a k,e=.returned (.tuple #[.int .i64 (xaP x p).need,.int .i64 (xaP x p).more,.slice a (xaP x p).next.length k])/\xcL (fun b=>w.heap.size<=b) w' (.slice a (xaP x p).next.length k) (xaP x p).next/\Below w.heap.size w w'
theorem NextP.mk {w W:World}{x:QI}{p need more:Int}{l:List Int}{e:Ending}{n:Nat}(h:xaP x p=⟨need,more,l⟩)(hn:W.heap.size=n)(hl:l.length<=1000)(hw:w.heap.size<=n)(he:e=.returned (.tuple #[.int .i64 need,.int .i64 more,.slice (some ⟨n,0,none⟩) l.length l.length]))(hb:Below w.heap.size w W):NextP w x p e (W.alloc (.cells (xbS l).toArray 3 (0,0))):=by
 unfold NextP;rw[h]
 exact⟨_,_,he,(xmr hl n hn).mono xhV fun b hb=>by omega,hb.alloc (by omega) _⟩
theorem NextP.drew {w w':World}{x:QI}{p:Int}{e:Ending}(h:NextP w x p e w'):NextP w x p e w'.drew:=by
 obtain⟨a,k,h1,h2,h3⟩:=h
 exact⟨a,k,h1,h2.later xhV (Below.refl _ _).drew,h3.drew⟩
theorem xkn (x:QI)(p:Int)(w:World)(hx:x.op=14->0<=x.a/\x.a<=4)(hp:IntKind.i64.wrap (p+1)=p+1):Calls Tryz.prog 53 #[IV x,.int .i64 p] w fun e w'=>NextP w x p e w':=by
 obtain⟨op,xa,xb,xc,nm⟩:=x;simp only at hx;have hb1:=xaj w (Obj.cells #[.int .i64 op,.int .i64 xa,.int .i64 xb,.int .i64 xc,.string nm] 57);go_enter Tryz.func53,Tryz.ntmps53
 by_cases h1:op=9\/op=11\/op=12
 ·rcases h1 with rfl | rfl | rfl
  all_goals
   go_wp2;refine bodyPost_ret (v:=.tuple #[.int .i64 1,.int .i64 (-1),.slice (some ⟨w.heap.size+1,0,none⟩) 1 1]) (by simp[results,Tryz.results53,go_sem]) rfl (NextP.mk (l:=[p+1]) (by simp[xaP]) (by simp) (by simp) (by omega) rfl (xaj _ _))
 ·by_cases h2:op=10
  ·subst h2;go_wp2;refine bodyPost_ret (v:=.tuple #[.int .i64 (1),.int .i64 (1),.slice (some ⟨w.heap.size+1,0,none⟩) 1 1]) (by simp[results,Tryz.results53,go_sem]) rfl (NextP.mk (l:=[p+1]) (by simp[xaP]) (by simp) (by simp) (by omega) rfl (xaj _ _))
  ·by_cases h3:op=14
   ·subst h3;obtain⟨q1,q2⟩:=hx rfl;have hw1:IntKind.i64.wrap (xa+1)=xa+1:=xaq (by omega) (by omega)
    have hw2:IntKind.i64.wrap (-xa)=-xa:=xaq (by omega) (by omega)
    go_wp2
    go_region
    all_goals go_wp2
    all_goals refine bodyPost_ret (v:=.tuple #[.int .i64 (xa+1),.int .i64 (-xa),.slice (some ⟨w.heap.size+1,0,none⟩) 1 1]) (by simp[results,Tryz.results53,go_sem]) rfl ?_
    all_goals exact (NextP.mk (l:=[p+1]) (by simp[xaP]) (by simp) (by simp) (by omega) rfl (xaj _ _)).drew
   ·by_cases h4:op=15
    ·subst h4;go_wp2
     go_region
     all_goals go_wp2
     all_goals refine bodyPost_ret (v:=.tuple #[.int .i64 0,.int .i64 0,.slice (some ⟨w.heap.size+1,0,none⟩) 1 1]) (by simp[results,Tryz.results53,go_sem]) rfl ?_
     all_goals exact (NextP.mk (l:=[xa]) (by simp[xaP]) (by simp) (by simp) (by omega) rfl (xaj _ _)).drew
    ·by_cases h5:op=16
     ·subst h5;go_wp2
      go_region
      all_goals go_wp2
      all_goals refine bodyPost_ret (v:=.tuple #[.int .i64 1,.int .i64 (-1),.slice (some ⟨w.heap.size+1,0,none⟩) 2 2]) (by simp[results,Tryz.results53,go_sem]) rfl ?_
      all_goals exact (NextP.mk (l:=[p+1,xa]) (by simp[xaP]) (by simp) (by simp) (by omega) rfl (xaj _ _)).drew
     ·by_cases h6:op=17
      ·subst h6;go_wp2;refine bodyPost_ret (v:=.tuple #[.int .i64 1,.int .i64 (-1),.slice none 0 0]) (by simp[results,Tryz.results53,go_sem]) rfl ?_
       unfold NextP;rw[show xaP ⟨17,xa,xb,xc,nm⟩ p=⟨1,-1,[]⟩ from by simp[xaP]]
       exact⟨none,0,rfl,xbk,xaj _ _⟩
      ·have n1:¬ op=9:=fun h=>h1 (Or.inl h)
       have n2:¬ op=11:=fun h=>h1 (Or.inr (Or.inl h))
       have n3:¬ op=12:=fun h=>h1 (Or.inr (Or.inr h))
       go_wp2;refine bodyPost_ret (v:=.tuple #[.int .i64 0,.int .i64 1,.slice (some ⟨w.heap.size+1,0,none⟩) 1 1]) (by simp[results,Tryz.results53,go_sem]) rfl (NextP.mk (l:=[p+1]) (by simp[xaP,h2,h3,h4,h5,h6,n1,n2,n3]) (by simp) (by simp) (by omega) rfl (xaj _ _))
end Go.Proofs.YtaodadfahifbpaaGreat
