/- A part. -/
import Derived.Test.YtapbeiccodnniaaGreatM14
import Derived.BigRegion
import Derived.Deep.RegionLaw
namespace Go.Proofs.YtapbeiccodnniaaGreat
open Go.ChangeShapes Go.WideShapes Go.ChangeAt Go.RowKit
set_option linter.unusedSimpArgs false
set_option linter.unusedVariables false
set_option maxHeartbeats 8000000
set_option maxRecDepth 8000
theorem xcE {wr w2:World}{B:Nat}{X Y:Obj}{a:Option Addr}{e:TypeId}{sz n k:Nat}{xs:List Value}(hown:wr.ownsRow B e sz (.slice a n k) n xs)(hB:B<=wr.heap.size)(hgr:((wr.alloc X).alloc Y).grownBy w2 (Value.ownBlock (.slice a n k))):Below B wr w2:=
 ((Below.refl B wr).alloc hB X).trans (xcr (hown.alloc X) (by simp;omega) hgr)
theorem xjy {wr w2:World}{B:Nat}{X Y:Obj}{a:Option Addr}{e:TypeId}{sz n k:Nat}{xs:List Value}(hown:wr.ownsRow B e sz (.slice a n k) n xs)(hgr:((wr.alloc X).alloc Y).grownBy w2 (Value.ownBlock (.slice a n k))):w2.heap[wr.heap.size]?=some X:=by
 rw[hgr.block wr.heap.size (by simp;omega) ?_,(xaj _ _).block _ (by simp)]
 ·exact xba _ _ _ rfl
 ·obtain⟨-,⟨e,-⟩ | ⟨g,c,cur,e,h1,h2,-⟩⟩:=hown
  ·rw[e];simp[Value.ownBlock]
  ·rw[e];have:=xaf h2
   simp[Value.ownBlock]
   omega
theorem xiU {m:QM}:∀ (r:List QM) (s:InsS),(r.foldl (xdJ m) s).ms.length<=s.ms.length+r.length+(if s.done then 0 else 1)/\((r.foldl (xdJ m) s).done=false->s.done=false/\(r.foldl (xdJ m) s).ms.length<=s.ms.length+r.length)
 | [],s=>by simp
 | x :: r,s=>by
  obtain⟨h1,h2⟩:=xiU (m:=m) r (xdJ m s x);rw[List.foldl_cons]
  cases he:eqN x.name m.name
  ·by_cases hg:s.done=false/\gtN x.name m.name=true
   ·have e:xdJ m s x=⟨s.ms++[m]++[x],true,s.was⟩:=by simp[xdJ,he,hg]
    rw[e] at h1 h2 ⊢
    simp[hg.1] at h1 h2 ⊢
    exact⟨by omega,fun h=>by rw[h2] at h;cases h⟩
   ·have e:xdJ m s x=⟨s.ms++[x],s.done,s.was⟩:=by simp[xdJ,he,hg]
    rw[e] at h1 h2 ⊢
    simp at h1 h2 ⊢
    exact⟨by omega,fun h=>⟨(h2 h).1,by have:=(h2 h).2;omega⟩⟩
  ·have e:xdJ m s x=⟨s.ms++[m],true,true⟩:=by simp[xdJ,he]
   rw[e] at h1 h2 ⊢
   simp at h1 h2 ⊢
   exact⟨by split<;>omega,fun h=>by rw[h2] at h;cases h⟩
theorem xfg {α β:Type}(f:β->α->β)(b:β)(xs:List α)(j:Nat)(x:α)(h:xs[j]?=some x):(xs.take (j+1)).foldl f b=f ((xs.take j).foldl f b) x:=by
 rw[List.take_add_one,h];simp
def xn5 (P:Nat->Prop)(w:World)(X:QW)(c:Int)(m:QM)(hv:Value)(e:Ending)(w':World):Prop:=
 (xcN X.cz.length c=false/\e=.returned (.tuple #[WV (.slice none 0 0) (.slice none 0 0) 0,.int .i64 6])\/
  ∃ (k:Nat) (x:QC),c=(k:Int)/\X.cz[k]?=some x/\
   ((xcu x.mz m.name<0/\8<=x.mz.length/\e=.returned (.tuple #[WV (.slice none 0 0) (.slice none 0 0) 0,.int .i64 5]))\/
    (¬ (xcu x.mz m.name<0/\8<=x.mz.length)/\∃ cv',e=.returned (.tuple #[WV cv' hv (xfZ X.ez),.int .i64 0])/\xai (fun b=>P b\/w.heap.size<=b) w' cv' (xhJ X k x m).cz)))/\Below w.heap.size w w'
abbrev InP (P:Nat->Prop)(w:World):Nat->Prop:=fun b=>P b/\b<w.heap.size
theorem xgt {P:Nat->Prop}{w:World}{v:Value}{xs:List QI}(h:xa5 P w v xs):xa5 (InP P w) w v xs:=by
 obtain⟨ad,cap,h1,h2,h3,h4,h5⟩:=h;refine⟨ad,cap,h1,h2,h3,h4,fun i x hx=>?_⟩
 obtain⟨b,o,e1,e2,e3⟩:=h5 i x hx
 exact⟨b,o,e1,⟨e2,World.block_lt_of_cell? w _ e3.1⟩,e3⟩
theorem xe4 {α:Type}{E:Lay α}{sz bytes:Nat}(G:Good E sz){t:TypeId}{Q:Nat->Prop}{B n k:Nat}{a:Option Addr}{w:World}{cs:List Value}{xs:List α}(hown:w.ownsRow B t sz (.slice a n k) n cs)(hc:Cells E sz Q w cs xs)(hn:xs.length=n)(hQ:∀ b,B<=b->b<w.heap.size->Q b)(hby:n*bytes<=140737488351232):IsRow E sz bytes Q w (.slice a n k) xs:=by
 obtain⟨-,⟨e,h0⟩ | ⟨g,c,cur,e,h1,h2,h3,h4,h5,h6⟩⟩:=hown
 ·cases e
  obtain rfl:=List.eq_nil_of_length_eq_zero hn
  exact xbG
 ·cases e
  subst hn
  exact hc.row G (hQ _ h1 (xaf h2)) h2 h6 h3 h4 hby
theorem xdK {t:TypeId}{B sz n k g:Nat}{w:World}{cs:List Value}(hown:w.ownsRow B t sz (.slice (some ⟨g,0,none⟩) n k) n cs){j:Nat}{u:Value}(hj:cs[j]?=some u):w.cell? ⟨g,j,none⟩=some u:=by
 obtain⟨-,⟨e,h0⟩ | ⟨g',c,cur,e,h1,h2,h3,h4,h5,h6⟩⟩:=hown
 ·cases e
 ·cases e
  rw[qzB h2];rw[← h6,List.getElem?_take] at hj
  split at hj
  ·simpa using hj
  ·cases hj
theorem xeJ {t:TypeId}{B sz n k g:Nat}{w:World}{cs:List Value}(hown:w.ownsRow B t sz (.slice (some ⟨g,0,none⟩) n k) n cs)(j:Nat):w.frozen? ⟨g,j,none⟩=false:=by
 obtain⟨-,⟨e,h0⟩ | ⟨g',c,cur,e,h1,h2,h3,h4,h5,h6⟩⟩:=hown
 ·cases e
 ·cases e
  unfold World.frozen?;simp[h2]
theorem Cells.setAt {α:Type}{E:Lay α}{sz:Nat}{P:Nat->Prop}{w:World}{cs cs':List Value}{xs:List α}(h:Cells E sz P w cs xs)(G:Good E sz){q:Nat}{y:α}(hq:q<xs.length)(hl:cs'.length=cs.length)(hk:∀ j,(j<q*sz\/(q+1)*sz<=j)->cs'[j]?=cs[j]?)(hy:E P w (fun k=>cs'[q*sz+k]?) y):Cells E sz P w cs' (xs.set q y):=by
 refine⟨by rw[hl,h.1,List.length_set],fun i x hx=>?_⟩
 by_cases hi:i=q
 ·subst hi;rw[List.getElem?_set_self hq] at hx
  cases hx
  exact hy
 ·rw[List.getElem?_set_ne (Ne.symm hi)] at hx;refine G.move (h.2 i x hx) (fun _ h=>h) (.refl _ _) fun k hk' v hv=>?_
  rw[hk]
  ·exact hv
  ·rcases Nat.lt_or_gt_of_ne hi with h' | h'
   ·left
    have:(i+1)*sz<=q*sz:=Nat.mul_le_mul_right _ h';rw[Nat.add_mul] at this
    omega
   ·right
    have:(q+1)*sz<=i*sz:=Nat.mul_le_mul_right _ h'
    omega
structure LayR (P:Nat->Prop)(w W0:World)(m:QM)(s:InsS)(a:Option Addr)(k:Nat)(cs:List Value)(wr:World):Prop where
 bel:Below (w.heap.size+3) W0 wr
 own:wr.ownsRow (w.heap.size+3) 59 5 (.slice a s.ms.length k) s.ms.length cs
 cells:Cells xeE 5 (InP P w) w cs s.ms
theorem xiP {P:Nat->Prop}{w wc wA:World}{X:QW}{m:QM}{q:Nat}{x:QC}{ccs:List Value}{az:Option Addr}{L cap2 gA capA:Nat}{S1 S2 S3 S4 S5:Value}(hx:X.cz[q]?=some x)(hbw:Below w.heap.size w wc)(hA:Below wc.heap.size wc wA)(hgB:wc.heap.size<=gA)(hsz:w.heap.size+3<=wc.heap.size)
  (hownA:wA.ownsRow wc.heap.size 54 4 (.slice (some ⟨gA,0,none⟩) X.cz.length capA) X.cz.length ccs) (HCC:Cells xd8 4 P w ccs X.cz) (hMZ:xbd (fun b=>(P b/\b<w.heap.size\/w.heap.size+3<=b)/\b<wc.heap.size) wc (.slice az L cap2) (xkP x.mz m)) (hby:X.cz.length*56<=140737488351232) :
  Below w.heap.size w ((((((wA.setCell ⟨w.heap.size,0,none⟩ S1).setCell ⟨gA,q*4+3,none⟩ (.slice az L cap2)).setCell ⟨w.heap.size,2,none⟩ S2).setCell ⟨w.heap.size+1+1,0,none⟩ S3).setCell ⟨w.heap.size+1+1,1,none⟩ S4).setCell ⟨w.heap.size+1+1,2,none⟩ S5)/\
   xai (fun b=>P b\/w.heap.size<=b) ((((((wA.setCell ⟨w.heap.size,0,none⟩ S1).setCell ⟨gA,q*4+3,none⟩ (.slice az L cap2)).setCell ⟨w.heap.size,2,none⟩ S2).setCell ⟨w.heap.size+1+1,0,none⟩ S3).setCell ⟨w.heap.size+1+1,1,none⟩ S4).setCell ⟨w.heap.size+1+1,2,none⟩ S5) (.slice (some ⟨gA,0,none⟩) X.cz.length capA) (xhJ X q x m).cz:=by
 have hF:Below w.heap.size w ((((((wA.setCell ⟨w.heap.size,0,none⟩ S1).setCell ⟨gA,q*4+3,none⟩ (.slice az L cap2)).setCell ⟨w.heap.size,2,none⟩ S2).setCell ⟨w.heap.size+1+1,0,none⟩ S3).setCell ⟨w.heap.size+1+1,1,none⟩ S4).setCell ⟨w.heap.size+1+1,2,none⟩ S5):=
  xa9 ((((xah hbw hA).setCell (qzC _) _).setCell (by show w.heap.size<=gA;omega) _).setCell (qzC _) _) (by omega) _ _ _
 refine⟨hF,?_⟩
 have hM2:xbd (fun b=>P b\/w.heap.size<=b) ((((((wA.setCell ⟨w.heap.size,0,none⟩ S1).setCell ⟨gA,q*4+3,none⟩ (.slice az L cap2)).setCell ⟨w.heap.size,2,none⟩ S2).setCell ⟨w.heap.size+1+1,0,none⟩ S3).setCell ⟨w.heap.size+1+1,1,none⟩ S4).setCell ⟨w.heap.size+1+1,2,none⟩ S5) (.slice az L cap2) (xkP x.mz m):=
  hMZ.keep xbi (xaq (xaq (xaq (xaq (xaq (xaq (.of_below hA) (by rintro⟨⟨_,h⟩ | h,_⟩<;>omega) _) (by rintro⟨⟨_,h⟩ | h,_⟩<;>omega) _) (by rintro⟨⟨_,h⟩ | h,_⟩<;>omega) _) (by rintro⟨⟨_,h⟩ | h,_⟩<;>omega) _) (by rintro⟨⟨_,h⟩ | h,_⟩<;>omega) _) (by rintro⟨⟨_,h⟩ | h,_⟩<;>omega) _) fun b hb=>by
   rcases hb.1 with h | h
   ·exact Or.inl h.1
   ·exact Or.inr (by omega)
 have hq:=xae hx;obtain⟨-,⟨e,h0⟩ | ⟨g,c,cur,e,h1,h2,h3,h4,h5,h6⟩⟩:=hownA
 ·cases e
 ·cases e
  have hlen:(xhJ X q x m).cz.length=X.cz.length:=by simp[xhJ]
  have hblk:((((((wA.setCell ⟨w.heap.size,0,none⟩ S1).setCell ⟨gA,q*4+3,none⟩ (.slice az L cap2)).setCell ⟨w.heap.size,2,none⟩ S2).setCell ⟨w.heap.size+1+1,0,none⟩ S3).setCell ⟨w.heap.size+1+1,1,none⟩ S4).setCell ⟨w.heap.size+1+1,2,none⟩ S5).heap[gA]?=some (.cells (cur.setIfInBounds (q*4+3) (.slice az L cap2)) 54 (0,0)):=by
   rw[xab (by omega),xab (by omega),xab (by omega),xab (by omega)]
   exact xad (by rw[xab (by omega)];exact h2) _
  have hcs:=HCC.keep xaz (.of_below hF) (Q:=fun b=>P b\/w.heap.size<=b) fun _ h=>Or.inl h
  obtain⟨e0,e1,e2,en,-⟩:=hcs.2 q x hx;have hl3:q*4+3<ccs.length:=by rw[hcs.1];omega
  have hC2:Cells xd8 4 (fun b=>P b\/w.heap.size<=b) ((((((wA.setCell ⟨w.heap.size,0,none⟩ S1).setCell ⟨gA,q*4+3,none⟩ (.slice az L cap2)).setCell ⟨w.heap.size,2,none⟩ S2).setCell ⟨w.heap.size+1+1,0,none⟩ S3).setCell ⟨w.heap.size+1+1,1,none⟩ S4).setCell ⟨w.heap.size+1+1,2,none⟩ S5) (ccs.set (q*4+3) (.slice az L cap2)) (xhJ X q x m).cz:=by
   refine hcs.setAt xaz hq (by simp) (fun j hj=>List.getElem?_set_ne (by omega)) ⟨?_,?_,?_,en,_,?_,hM2⟩
   ·exact (List.getElem?_set_ne (by omega)).trans e0
   ·exact (List.getElem?_set_ne (by omega)).trans e1
   ·exact (List.getElem?_set_ne (by omega)).trans e2
   ·exact List.getElem?_set_self hl3
  have:=hC2.row (bytes:=56) (cap:=capA) xaz (Or.inr (by omega)) hblk (by rw[hlen,← h6];simp[List.take_set]) (by rw[hlen];exact h3) h4 (by rw[hlen];exact hby)
  rw[hlen] at this
  exact this
theorem xgQ {P:Nat->Prop}(X:QW)(c:Int)(m:QM)(cv hv mv:Value)(w:World)(hh:xai P w cv X.cz)(hH:xaC P w hv X.heap)(hM:xa5 P w mv m.code)(hmn:m.name.size<=140737488351232)(hRC:xiJ X.cz):Calls Tryz.prog 50 #[WV cv hv X.ez,.int .i64 c,MV m mv] w fun e w'=>xn5 P w X c m hv e w':=by
 obtain⟨ad,cap,rfl,hl,hcap,hby,hrow⟩:=id hh;obtain⟨ah,ch,rfl,-,-,-,-⟩:=id hH;obtain⟨am,cm,rfl⟩:=hM.get;obtain⟨i0,hi,hz0,hz1,hz2⟩:=xa3 xkA;unfold maxLen at hcap;go_enter Tryz.func50,Tryz.ntmps50
 cases hhas:xcN X.cz.length c
 ·have HE:Hid (∀ W:World,Below w.heap.size w W->xn5 P w X c m (.slice ah X.heap.length ch) (.returned (.tuple #[WV (.slice none 0 0) (.slice none 0 0) 0,.int .i64 6])) W):=fun W h=>⟨Or.inl ⟨hhas,rfl⟩,h⟩
  by_cases h0:c<0
  ·go_wp2;refine bodyPost_ret (v:=.tuple #[WV (.slice none 0 0) (.slice none 0 0) 0,.int .i64 6]) ?_ rfl (HE.out _ ?_)
   ·simp[results,Tryz.results50,go_sem]
   ·first | exact xfv _ _ _ _ | exact xa9 (xfv _ _ _ _) (by omega) _ _ _
  ·have h0':decide (c<0)=false:=by simpa using h0
   have h1:(X.cz.length:Int)<=c:=by simp[xcN] at hhas;omega
   go_wp2;refine bodyPost_ret (v:=.tuple #[WV (.slice none 0 0) (.slice none 0 0) 0,.int .i64 6]) ?_ rfl (HE.out _ ?_)
   ·simp[results,Tryz.results50,go_sem]
   ·first | exact xfv _ _ _ _ | exact xa9 (xfv _ _ _ _) (by omega) _ _ _
 ·have h0:(0:Int)<=c:=by simp[xcN] at hhas;omega
  obtain⟨q,rfl⟩:=Int.eq_ofNat_of_zero_le h0;have hq:q<X.cz.length:=by simp[xcN] at hhas;omega
  have h1:(q:Int)<(X.cz.length:Int):=by omega
  obtain⟨x,hx⟩:∃ x,X.cz[q]?=some x:=⟨_,List.getElem?_eq_getElem hq⟩;obtain⟨b,o,rfl,-,v0,v1,v2,-,sv,v3,hms⟩:=hrow q x hx;obtain⟨am2,km,rfl,hlm,hkm,hbm,hrm⟩:=id hms;unfold maxLen at hkm;have HX:Hid (X.cz[q]?=some x):=hx;have hRM:RisesM x.mz:=hRC q x hx;have HROW:Hid (RowAt xd8 4 P w (some ⟨b,o,none⟩) X.cz):=hrow;clear hx hhas hrow;have v3x:=fun x1 x2 x3=>qzA (xfv w x1 x2 x3) v3
  go_wp2;generalize hW0:((w.alloc (Obj.cells #[Value.slice (some ⟨b,o,none⟩) X.cz.length cap,Value.slice ah X.heap.length ch,Value.int .i64 X.ez] 25)).alloc (Obj.cells #[Value.string m.name,Value.int .i64 m.args,Value.int .i64 m.temps,Value.int .i64 m.prim,Value.slice am m.code.length cm] 59)).alloc (Obj.cells #[Value.slice none 0 0,Value.slice none 0 0,Value.int .i64 0] 25)=W0 at *;have hBW:Below w.heap.size w W0:=by rw[← hW0];exact xfv _ _ _ _
  have hsW:W0.heap.size=w.heap.size+3:=by rw[← hW0];simp
  have gA:W0.heap[w.heap.size]?=some (.cells #[Value.slice (some ⟨b,o,none⟩) X.cz.length cap,Value.slice ah X.heap.length ch,Value.int .i64 X.ez] 25 (0,0)):=by rw[← hW0,(xca _ _ _).block _ (by simp)];exact xba _ _ _ rfl
  have gB:W0.heap[w.heap.size+1]?=some (.cells #[Value.string m.name,Value.int .i64 m.args,Value.int .i64 m.temps,Value.int .i64 m.prim,Value.slice am m.code.length cm] 59 (0,0)):=by rw[← hW0,(xaj _ _).block _ (by simp)];exact xba _ _ _ (by simp)
  have gC:W0.heap[w.heap.size+1+1]?=some (.cells #[Value.slice none 0 0,Value.slice none 0 0,Value.int .i64 0] 25 (0,0)):=by rw[← hW0];exact xba _ _ _ (by simp)
  clear hW0
  go_loopg [8,9,10,30] x.mz.length (fun g ms dn ws i wr=>∃ (j:Nat) (s:InsS) (a:Option Addr) (k:Nat) (cs:List Value),j+g=x.mz.length/\i=.int .i64 j/\s=(x.mz.take j).foldl (xdJ m) ⟨[],false,false⟩/\ms=.slice a s.ms.length k/\dn=.bool s.done/\ws=.bool s.was/\LayR P w W0 m s a k cs wr)
  case atStart=>exact⟨0,⟨[],false,false⟩,none,0,[],by omega,rfl,rfl,rfl,rfl,rfl,Below.refl _ _,⟨by simp,Or.inl ⟨rfl,rfl⟩⟩,.nil⟩
  case round=>
   obtain⟨j,s,a,k,cs,hg,rfl,hs,rfl,rfl,rfl,hL⟩:=hrel;obtain⟨sm,sd,sw⟩:=s;have HS:Hid (InsS.mk sm sd sw=(x.mz.take j).foldl (xdJ m) ⟨[],false,false⟩):=hs
   have hlen1:sm.length<=j+1:=by
    have:=(xiU (m:=m) (x.mz.take j) ⟨[],false,false⟩).1;rw[← hs] at this
    simp at this
    have h2:=List.length_take_le j x.mz
    simp at h2
    omega
   obtain⟨hbel,hown,hcs⟩:=id hL;have hsz:w.heap.size+3<=wr.heap.size:=by have:=hbel.size;omega
   have hbw:Below w.heap.size w wr:=hBW.trans (hbel.mono (by omega))
   have HCS:Hid (Cells xeE 5 (InP P w) w cs sm):=hcs;clear hs hL hcs;simp only at hown
   by_cases hj:j<x.mz.length
   ·have hj1:(j:Int)<(x.mz.length:Int):=by omega
    have hj0:(0:Int)<=(j:Int):=by omega
    obtain⟨y,hy⟩:∃ y,x.mz[j]?=some y:=⟨_,List.getElem?_eq_getElem hj⟩;obtain⟨b2,o2,rfl,-,p0,p1,p2,p3,hyn,yv,p4,hyc⟩:=hrm j y hy;obtain⟨ay,ky,rfl⟩:=hyc.get;have HY:Hid (InsS.mk sm sd sw=(x.mz.take j).foldl (xdJ m) ⟨[],false,false⟩->(x.mz.take (j+1)).foldl (xdJ m) ⟨[],false,false⟩=xdJ m ⟨sm,sd,sw⟩ y):=fun h=>by rw[xfg _ _ _ _ _ hy,h]
    simp only[Nat.add_zero] at p0;replace p0:=qzA hbw p0;replace p1:=qzA hbw p1;replace p2:=qzA hbw p2;replace p3:=qzA hbw p3;replace p4:=qzA hbw p4;have gB':wr.heap[w.heap.size+1]?=some (.cells #[Value.string m.name,Value.int .i64 m.args,Value.int .i64 m.temps,Value.int .i64 m.prim,Value.slice am m.code.length cm] 59 (0,0)):=by rw[hbel.block _ (by omega)];exact gB
    have mc:∀ z q,(wr.alloc z).cell? ⟨w.heap.size+1,q,none⟩=(#[Value.string m.name,Value.int .i64 m.args,Value.int .i64 m.temps,Value.int .i64 m.prim,Value.slice am m.code.length cm]:Array Value)[q]?:=fun z q=>by rw[(xaj wr z).cell (p:=⟨w.heap.size+1,q,none⟩) (by simp;omega),qzB gB']
    have HYC:Hid (xa5 (InP P w) w (.slice ay y.code.length ky) y.code):=xgt hyc;clear hy hyc
    cases he:eqN y.name m.name
    ·have he':(y.name.toList == m.name.toList)=false:=he
     cases sd
     ·cases hlt:Op.bytesLess y.name.toList m.name.toList
      ·have hg:gtN y.name m.name=true:=by unfold gtN;rw[hlt,he'];rfl
       go_wp2_with (first
        | (at_builtin;refine wpList_append_lies _ rfl (.tmp 52) (.tmp 54) 52 rfl (w.heap.size+3) 59 i0 _ 5 64 Tryz.underlying52 hi hz0 hz1 hz2 rfl (by decide) _ sm.length _ rfl ((hown.alloc _).alloc _) ⟨_,0,none⟩ 1 1 [Value.string m.name,Value.int .i64 m.args,Value.int .i64 m.temps,Value.int .i64 m.prim,Value.slice am m.code.length cm] rfl rfl (fun j u hu=>(by rw[Addr.add_lit,Nat.zero_add];exact (xaa (World.alloc wr _) _ 59 _ (by simp) j).trans (by simpa using hu))) (by intro u hu;simp at hu;rcases hu with rfl | rfl | rfl | rfl | rfl<;>rfl) (by omega) (by unfold maxLen;omega) (by omega) (by first | (simp;omega) | (have:=hb2.size;simp;omega)) _ rfl ?_;intro gg cap2 w2 hown2 hgr hor hlt2;have hb2:=xcE hown hsz hgr;have hk2:=xjy hown hgr;have yc:∀ q,w2.cell? ⟨wr.heap.size,q,none⟩=(#[Value.string y.name,Value.int .i64 y.args,Value.int .i64 y.temps,Value.int .i64 y.prim,Value.slice ay y.code.length ky]:Array Value)[q]?:=(fun q=>by rw[qzB hk2]))
        | (at_builtin;refine wpList_append_lies _ rfl (.tmp 56) (.tmp 58) 52 rfl (w.heap.size+3) 59 i0 _ 5 64 Tryz.underlying52 hi hz0 hz1 hz2 rfl (by decide) _ (sm.length+1) _ rfl (hown2.alloc _) ⟨_,0,none⟩ 1 1 [Value.string y.name,Value.int .i64 y.args,Value.int .i64 y.temps,Value.int .i64 y.prim,Value.slice ay y.code.length ky] rfl rfl (fun j u hu=>(by rw[Addr.add_lit,Nat.zero_add];exact (xaa w2 _ 59 _ rfl j).trans (by simpa using hu))) (by intro u hu;simp at hu;rcases hu with rfl | rfl | rfl | rfl | rfl<;>rfl) (by omega) (by unfold maxLen;omega) (by omega) (by first | (simp;omega) | (have:=hb2.size;simp;omega)) _ rfl ?_;intro gg3 cap3 w3 hown3 hgr3 hor3 hlt3;have hb3:=xcr hown2 (qzD hsz hb2.size) hgr3))
       go_roundg (gk-1)
       case measure=>omega
       case rel=>
        refine⟨j+1,⟨sm++[m]++[y],true,sw⟩,some ⟨gg3,0,none⟩,cap3,_,by omega,by go_num,?_,by simp,rfl,rfl,hbel.trans (hb2.trans hb3),by simpa using hown3,(HCS.out.append xbi (xbU m _ hmn (xgt hM))).append xbi (xbU y _ hyn HYC.out)⟩
        rw[HY.out HS.out]
        simp[xdJ,he,hg]
      ·have hg:gtN y.name m.name=false:=by unfold gtN;rw[hlt];rfl
       go_wp2_with (at_builtin;refine wpList_append_lies _ rfl (.tmp 56) (.tmp 58) 52 rfl (w.heap.size+3) 59 i0 _ 5 64 Tryz.underlying52 hi hz0 hz1 hz2 rfl (by decide) _ sm.length _ rfl ((hown.alloc _).alloc _) ⟨_,0,none⟩ 1 1 [Value.string y.name,Value.int .i64 y.args,Value.int .i64 y.temps,Value.int .i64 y.prim,Value.slice ay y.code.length ky] rfl rfl (fun j u hu=>(by rw[Addr.add_lit,Nat.zero_add];exact (xaa (World.alloc wr _) _ 59 _ (by simp) j).trans (by simpa using hu))) (by intro u hu;simp at hu;rcases hu with rfl | rfl | rfl | rfl | rfl<;>rfl) (by omega) (by unfold maxLen;omega) (by omega) (by first | (simp;omega) | (have:=hb2.size;simp;omega)) _ rfl ?_;intro gg cap2 w2 hown2 hgr hor hlt2;have hb2:=xcE hown hsz hgr)
       go_roundg (gk-1)
       case measure=>omega
       case rel=>
        refine⟨j+1,⟨sm++[y],false,sw⟩,some ⟨gg,0,none⟩,cap2,_,by omega,by go_num,?_,by simp,rfl,rfl,hbel.trans hb2,by simpa using hown2,HCS.out.append xbi (xbU y _ hyn HYC.out)⟩
        rw[HY.out HS.out]
        simp[xdJ,he,hg]
     ·go_wp2_with (at_builtin;refine wpList_append_lies _ rfl (.tmp 56) (.tmp 58) 52 rfl (w.heap.size+3) 59 i0 _ 5 64 Tryz.underlying52 hi hz0 hz1 hz2 rfl (by decide) _ sm.length _ rfl ((hown.alloc _).alloc _) ⟨_,0,none⟩ 1 1 [Value.string y.name,Value.int .i64 y.args,Value.int .i64 y.temps,Value.int .i64 y.prim,Value.slice ay y.code.length ky] rfl rfl (fun j u hu=>(by rw[Addr.add_lit,Nat.zero_add];exact (xaa (World.alloc wr _) _ 59 _ (by simp) j).trans (by simpa using hu))) (by intro u hu;simp at hu;rcases hu with rfl | rfl | rfl | rfl | rfl<;>rfl) (by omega) (by unfold maxLen;omega) (by omega) (by first | (simp;omega) | (have:=hb2.size;simp;omega)) _ rfl ?_;intro gg cap2 w2 hown2 hgr hor hlt2;have hb2:=xcE hown hsz hgr)
      go_roundg (gk-1)
      case measure=>omega
      case rel=>
       refine⟨j+1,⟨sm++[y],true,sw⟩,some ⟨gg,0,none⟩,cap2,_,by omega,by go_num,?_,by simp,rfl,rfl,hbel.trans hb2,by simpa using hown2,HCS.out.append xbi (xbU y _ hyn HYC.out)⟩
       rw[HY.out HS.out]
       simp[xdJ,he]
    ·have he':(y.name.toList == m.name.toList)=true:=he
     go_wp2_with (at_builtin;refine wpList_append_lies _ rfl (.tmp 39) (.tmp 41) 52 rfl (w.heap.size+3) 59 i0 _ 5 64 Tryz.underlying52 hi hz0 hz1 hz2 rfl (by decide) _ sm.length cs rfl ((hown.alloc _).alloc _) ⟨_,0,none⟩ 1 1 [Value.string m.name,Value.int .i64 m.args,Value.int .i64 m.temps,Value.int .i64 m.prim,Value.slice am m.code.length cm] rfl rfl (fun j u hu=>(by rw[Addr.add_lit,Nat.zero_add];exact (xaa (World.alloc wr _) _ 59 _ (by simp) j).trans (by simpa using hu))) (by intro u hu;simp at hu;rcases hu with rfl | rfl | rfl | rfl | rfl<;>rfl) (by omega) (by unfold maxLen;omega) (by omega) (by simp;omega) _ rfl ?_;intro gg cap2 w2 hown2 hgr hor hlt2;have hb2:=xcE hown hsz hgr)
     go_roundg (gk-1)
     case measure=>omega
     case rel=>
      refine⟨j+1,⟨sm++[m],true,true⟩,some ⟨gg,0,none⟩,cap2,_,by omega,by go_num,?_,by simp,rfl,rfl,hbel.trans hb2,by simpa using hown2,HCS.out.append xbi (xbU m _ hmn (xgt hM))⟩
      rw[HY.out HS.out]
      simp[xdJ,he]
   ·obtain rfl:j=x.mz.length:=by omega
    have hF:Hid (xmS m x.mz=⟨sm,sd,sw⟩):=by show _=_;unfold xmS;rw[HS.out,List.take_length]
    have hsw:Hid (sw=decide (0<=xcu x.mz m.name)):=by show _=_;rw[← xlC hRM,hF.out]
    have hlI:xkP x.mz m=if sd then sm else sm++[m]:=by rw[← xmp hRM];unfold xo6;rw[hF.out]
    have hj1:(x.mz.length:Int)<=(x.mz.length:Int):=by omega
    have gA':wr.heap[w.heap.size]?=some (.cells #[Value.slice (some ⟨b,o,none⟩) X.cz.length cap,Value.slice ah X.heap.length ch,Value.int .i64 X.ez] 25 (0,0)):=by rw[hbel.block _ (by omega)];exact gA
    have gB':wr.heap[w.heap.size+1]?=some (.cells #[Value.string m.name,Value.int .i64 m.args,Value.int .i64 m.temps,Value.int .i64 m.prim,Value.slice am m.code.length cm] 59 (0,0)):=by rw[hbel.block _ (by omega)];exact gB
    have mc:∀ q,wr.cell? ⟨w.heap.size+1,q,none⟩=(#[Value.string m.name,Value.int .i64 m.args,Value.int .i64 m.temps,Value.int .i64 m.prim,Value.slice am m.code.length cm]:Array Value)[q]?:=fun q=>by rw[qzB gB']
    go_upto_if 62 with (fail)
    go_cut [8] (fun ms wz=>∃ (L cap2:Nat) (az:Option Addr) (csz:List Value),ms=.slice az L cap2/\Below (w.heap.size+3) W0 wz/\wz.ownsRow (w.heap.size+3) 59 5 (.slice az L cap2) L csz/\Cells xeE 5 (InP P w) w csz (xkP x.mz m)/\L=(xkP x.mz m).length)
    case first=>
     cases sd
     ·simp only[Bool.false_eq_true,if_false] at hlI
      go_wp2_with (at_builtin;refine wpList_append_lies _ rfl (.tmp 63) (.tmp 65) 52 rfl (w.heap.size+3) 59 i0 _ 5 64 Tryz.underlying52 hi hz0 hz1 hz2 rfl (by decide) _ sm.length cs rfl (hown.alloc _) ⟨_,0,none⟩ 1 1 [Value.string m.name,Value.int .i64 m.args,Value.int .i64 m.temps,Value.int .i64 m.prim,Value.slice am m.code.length cm] rfl rfl (fun j u hu=>(by rw[Addr.add_lit,Nat.zero_add];exact (xaa wr _ 59 _ rfl j).trans (by simpa using hu))) (by intro u hu;simp at hu;rcases hu with rfl | rfl | rfl | rfl | rfl<;>rfl) (by omega) (by unfold maxLen;omega) (by omega) (by simp;omega) _ rfl ?_;intro gg cap2 w2 hown2 hgr hor hlt2;have hb2:=xcr hown hsz hgr)
      go_meet
      case rel=>exact⟨_,_,_,_,rfl,hbel.trans hb2,hown2,by rw[hlI];exact HCS.out.append xbi (xbU m _ hmn (xgt hM)),by rw[hlI];simp⟩
     ·simp only[if_true] at hlI;go_wp2_with fail
      go_meet
      case rel=>exact⟨_,_,_,_,rfl,hbel,hown,by rw[hlI];exact HCS.out,by rw[hlI]⟩
    case rest=>
     obtain⟨L,cap2,az,csz,rfl,hbz,hownz,hcz,hL⟩:=hcut;clear gA' gB' mc hown hbel hbw hsz HCS;have hsz:w.heap.size+3<=wc.heap.size:=by have:=hbz.size;omega
     have hbw:Below w.heap.size w wc:=hBW.trans (hbz.mono (by omega))
     have gA':wc.heap[w.heap.size]?=some (.cells #[Value.slice (some ⟨b,o,none⟩) X.cz.length cap,Value.slice ah X.heap.length ch,Value.int .i64 X.ez] 25 (0,0)):=by rw[hbz.block _ (by omega)];exact gA
     have gC':wc.heap[w.heap.size+1+1]?=some (.cells #[Value.slice none 0 0,Value.slice none 0 0,Value.int .i64 0] 25 (0,0)):=by rw[hbz.block _ (by omega)];exact gC
     have ac:∀ q,wc.cell? ⟨w.heap.size,q,none⟩=(#[Value.slice (some ⟨b,o,none⟩) X.cz.length cap,Value.slice ah X.heap.length ch,Value.int .i64 X.ez]:Array Value)[q]?:=fun q=>by rw[qzB gA']
     have rc:∀ q,wc.cell? ⟨w.heap.size+1+1,q,none⟩=(#[Value.slice none 0 0,Value.slice none 0 0,Value.int .i64 0]:Array Value)[q]?:=fun q=>by rw[qzB gC']
     have rf:∀ q,wc.frozen? ⟨w.heap.size+1+1,q,none⟩=false:=fun q=>by unfold World.frozen?;simp[gC']
     have v3':=qzA hbw v3
     by_cases hmany:xcu x.mz m.name<0/\8<=x.mz.length
     ·have hsw':sw=false:=by rw[hsw.out];simpa using hmany.1
      subst hsw';have h8:(8:Int)<=(x.mz.length:Int):=by omega
      have HE:Hid (∀ W:World,Below w.heap.size w W->xn5 P w X (q:Int) m (.slice ah X.heap.length ch) (.returned (.tuple #[WV (.slice none 0 0) (.slice none 0 0) 0,.int .i64 5])) W):=fun W h=>⟨Or.inr ⟨q,x,rfl,HX.out,Or.inl ⟨hmany.1,hmany.2,rfl⟩⟩,h⟩
      clear hsw;go_wp2;refine bodyPost_ret (v:=.tuple #[WV (.slice none 0 0) (.slice none 0 0) 0,.int .i64 5]) ?_ rfl (HE.out _ (xa9 hbw (by omega) _ _ _))
      simp[results,Tryz.results50,go_sem,rc,rf]
     ·have HN:Hid (¬ (xcu x.mz m.name<0/\8<=x.mz.length)):=hmany
      have hLlen:L*64<=140737488351232:=by
       rw[hL];unfold xkP
       split
       ·rw[List.length_set];omega
       ·have:x.mz.length<8:=by omega
        simp
        omega
      obtain⟨ccs,hcs,hsrc⟩:=RowAt.cells HROW.out xaz;have HCC:Hid (Cells xd8 4 P w ccs X.cz):=hcs;have HSRC:Hid (∀ j u,ccs[j]?=some u->∃ a,some (⟨b,o,none⟩:Addr)=some a/\w.cell? (a.add j)=some u):=hsrc;have hcl:=hcs.1
      have hMZ:Hid (xbd (fun b=>(P b/\b<w.heap.size\/w.heap.size+3<=b)/\b<wc.heap.size) wc (.slice az L cap2) (xkP x.mz m)):=
       xe4 xbi hownz (hcz.keep xbi (.of_below hbw) fun b hb=>⟨Or.inl hb,qzE hb.2 hbw.size⟩) hL.symm (fun b h1 h2=>⟨Or.inr h1,h2⟩) hLlen
      clear hcs hsrc hmany;have acx:=fun x q=>((xaj wc x).cell (p:=⟨w.heap.size,q,none⟩) (by simp;omega)).trans (ac q)
      have hgd:sw=false->decide (8<=(x.mz.length:Int))=false:=fun h=>by
       have:=hsw.out;rw[h] at this;have h1:¬ (0<=xcu x.mz m.name):=by simpa using this
       have:=HN.out
       simp
       omega
      obtain⟨u3,hu3⟩:∃ u,ccs[q*4+3]?=some u:=by
       obtain⟨u,hu,-⟩:=xaz.there (HCC.out.2 q x HX.out) 3 (by omega)
       exact⟨u,hu⟩
      have HL:Hid (L=(xkP x.mz m).length):=hL;have HCU:Hid (ccs[q*4+3]?=some u3):=hu3;have afc:∀ q,wc.frozen? ⟨w.heap.size,q,none⟩=false:=fun q=>by unfold World.frozen?;simp[gA']
      clear hlI hL hsw hu3
      cases hsv:sw
      ·have hgd':=hgd hsv;clear hgd
       go_wp2_with (at_builtin;refine xa4 rfl (.tmp 80) (.tmp 82) 22 54 zC 4 56 rfl Tryz.underlying22 xg5 rfl (by decide) (by decide) wc.heap.size rfl (xba _ _ _ rfl) (some ⟨b,o,none⟩) X.cz.length cap rfl ccs hcl (fun j u hu=>by obtain⟨a,e,h⟩:=HSRC.out j u hu;exact⟨a,e,qzA (xah hbw (xaj _ _)) h⟩) hby ?_;intro gA capA wA hownA hgA hgAl hbA;have hA:=xah (xaj _ _) hbA;have acA:=(fun q=>(hA.cell (p:=⟨w.heap.size,q,none⟩) (by simp;omega)).trans (ac q));have afA:=(fun q=>(hA.frozen (p:=⟨w.heap.size,q,none⟩) (by simp;omega)).trans (afc q));have rcA:=(fun q=>(hA.cell (p:=⟨w.heap.size+1+1,q,none⟩) (by simp;omega)).trans (rc q));have rfA:=(fun q=>(hA.frozen (p:=⟨w.heap.size+1+1,q,none⟩) (by simp;omega)).trans (rf q));have hgc:=xdK hownA HCU.out;have hgf:=xeJ hownA;have hgB:wc.heap.size<=gA:=(by rcases hgA with rfl | h;exact qzC _;simp at h;omega);have hne1:¬ gA=w.heap.size:=(by omega);have hne2:¬ w.heap.size=gA:=(by omega);have hne3:¬ gA=w.heap.size+1+1:=(by omega);have hne4:¬ w.heap.size+1+1=gA:=(by omega))
       obtain⟨hF,hFC⟩:=xiP (S1:=.slice (some ⟨gA,0,none⟩) X.cz.length capA) (S2:=.int .i64 (wrap64 (X.ez+1))) (S3:=.slice (some ⟨gA,0,none⟩) X.cz.length capA) (S4:=.slice ah X.heap.length ch) (S5:=.int .i64 (wrap64 (X.ez+1))) HX.out hbw hA hgB hsz hownA HCC.out hMZ.out hby;refine bodyPost_ret (v:=.tuple #[WV (.slice (some ⟨gA,0,none⟩) X.cz.length capA) (.slice ah X.heap.length ch) (xfZ X.ez),.int .i64 0]) ?_ rfl ⟨Or.inr ⟨q,x,rfl,HX.out,Or.inr ⟨HN.out,_,rfl,hFC⟩⟩,hF⟩
       simp[results,Tryz.results50,go_sem,rcA,rfA,acA,afA,hne1,hne2,hne3,hne4,xfZ]
      ·clear hgd
       go_wp2_with (at_builtin;refine xa4 rfl (.tmp 80) (.tmp 82) 22 54 zC 4 56 rfl Tryz.underlying22 xg5 rfl (by decide) (by decide) wc.heap.size rfl (xba _ _ _ rfl) (some ⟨b,o,none⟩) X.cz.length cap rfl ccs hcl (fun j u hu=>by obtain⟨a,e,h⟩:=HSRC.out j u hu;exact⟨a,e,qzA (xah hbw (xaj _ _)) h⟩) hby ?_;intro gA capA wA hownA hgA hgAl hbA;have hA:=xah (xaj _ _) hbA;have acA:=(fun q=>(hA.cell (p:=⟨w.heap.size,q,none⟩) (by simp;omega)).trans (ac q));have afA:=(fun q=>(hA.frozen (p:=⟨w.heap.size,q,none⟩) (by simp;omega)).trans (afc q));have rcA:=(fun q=>(hA.cell (p:=⟨w.heap.size+1+1,q,none⟩) (by simp;omega)).trans (rc q));have rfA:=(fun q=>(hA.frozen (p:=⟨w.heap.size+1+1,q,none⟩) (by simp;omega)).trans (rf q));have hgc:=xdK hownA HCU.out;have hgf:=xeJ hownA;have hgB:wc.heap.size<=gA:=(by rcases hgA with rfl | h;exact qzC _;simp at h;omega);have hne1:¬ gA=w.heap.size:=(by omega);have hne2:¬ w.heap.size=gA:=(by omega);have hne3:¬ gA=w.heap.size+1+1:=(by omega);have hne4:¬ w.heap.size+1+1=gA:=(by omega))
       obtain⟨hF,hFC⟩:=xiP (S1:=.slice (some ⟨gA,0,none⟩) X.cz.length capA) (S2:=.int .i64 (wrap64 (X.ez+1))) (S3:=.slice (some ⟨gA,0,none⟩) X.cz.length capA) (S4:=.slice ah X.heap.length ch) (S5:=.int .i64 (wrap64 (X.ez+1))) HX.out hbw hA hgB hsz hownA HCC.out hMZ.out hby;refine bodyPost_ret (v:=.tuple #[WV (.slice (some ⟨gA,0,none⟩) X.cz.length capA) (.slice ah X.heap.length ch) (xfZ X.ez),.int .i64 0]) ?_ rfl ⟨Or.inr ⟨q,x,rfl,HX.out,Or.inr ⟨HN.out,_,rfl,hFC⟩⟩,hF⟩
       simp[results,Tryz.results50,go_sem,rcA,rfA,acA,afA,hne1,hne2,hne3,hne4,xfZ]
theorem xm3:∀ j,j<5->∃ (s:ByteArray) (p:Int),(#[Value.string ⟨#[42]⟩,.string ⟨#[43]⟩,.string ⟨#[45]⟩,.string ⟨#[60]⟩,.string ⟨#[61]⟩]:Array Value)[j]?=some (.string s)/\(#[Value.int .i64 3,.int .i64 1,.int .i64 2,.int .i64 4,.int .i64 5]:Array Value)[j]?=some (.int .i64 p)/\xeA.take ((j+1)*5)=xeA.take (j*5)++[.string s,.int .i64 1,.int .i64 0,.int .i64 p,.slice none 0 0]:=by
 intro j hj
 match j,hj with
 | 0,_=>exact⟨_,_,rfl,rfl,rfl⟩
 | 1,_=>exact⟨_,_,rfl,rfl,rfl⟩
 | 2,_=>exact⟨_,_,rfl,rfl,rfl⟩
 | 3,_=>exact⟨_,_,rfl,rfl,rfl⟩
 | 4,_=>exact⟨_,_,rfl,rfl,rfl⟩
structure NewR (w:World)(j:Nat)(a:Option Addr)(k:Nat)(wr:World):Prop where
 bel:Below w.heap.size w wr
 cls:wr.heap[w.heap.size+1]?=some (.cells (xlg (.slice a j k)).toArray 54 (0,0))
 c0:wr.cell? ⟨w.heap.size+1+1,0,none⟩=some (.slice (some ⟨w.heap.size+1,0,none⟩) 4 4)
 c1:wr.cell? ⟨w.heap.size+1+1,1,none⟩=some (.slice none 0 0)
 c2:wr.cell? ⟨w.heap.size+1+1,2,none⟩=some (.int .i64 0)
 str:wr.heap[w.heap.size+1+1+1]?=some (.cells #[Value.string ⟨#[42]⟩,.string ⟨#[43]⟩,.string ⟨#[45]⟩,.string ⟨#[60]⟩,.string ⟨#[61]⟩] 9 (0,0))
 own:wr.ownsRow (w.heap.size+4) 59 5 (.slice a j k) j (xeA.take (j*5))
 size:w.heap.size+4<=wr.heap.size
 res:wr.heap[w.heap.size]?=some (.cells #[.slice none 0 0,.slice none 0 0,.int .i64 0] 25 (0,0))
theorem NewR.grown {w:World}{j:Nat}{a:Option Addr}{k:Nat}{wr w3:World}(h:NewR w j a k wr)(o1 o2:Obj)(hgr:((wr.alloc o1).alloc o2).drew.grownBy w3 (Value.ownBlock (.slice a j k))):Below (w.heap.size+4) wr w3:=by
 have hz:=h.size;refine (((Below.refl _ wr).alloc hz o1).alloc (by simp;omega) o2).drew.grown hgr (by simp;omega) (fun k' hk'=>?_)
 obtain⟨-,⟨e,-⟩ | ⟨g,c,cur,e,h1,-⟩⟩:=h.own
 ·rw[e] at hk';cases hk'
 ·rw[e] at hk'
  simp[Value.ownBlock] at hk'
  omega
theorem NewR.step {w:World}{j:Nat}{a:Option Addr}{k:Nat}{wr w3:World}{gg cap2:Nat}{cs:List Value}(h:NewR w j a k wr)(hb:Below (w.heap.size+4) wr w3)(hown2:w3.ownsRow (w.heap.size+4) 59 5 (.slice (some ⟨gg,0,none⟩) (j+1) cap2) (j+1) (xeA.take (j*5)++cs))(hcs:xeA.take (j*5)++cs=xeA.take ((j+1)*5)):NewR w (j+1) (some ⟨gg,0,none⟩) cap2 (w3.setCell ⟨w.heap.size+1,15,none⟩ (.slice (some ⟨gg,0,none⟩) (j+1) cap2)):=by
 have hz:=h.size;have hbs:=hb.size;have hcls:w3.heap[w.heap.size+1]?=some (.cells (xlg (.slice a j k)).toArray 54 (0,0)):=by rw[hb.block _ (by omega)];exact h.cls
 refine⟨(h.bel.trans (hb.mono (by omega))).setCell (by show w.heap.size<=w.heap.size+1;omega) _,?_,?_,?_,?_,?_,?_,?_,?_⟩
 ·rw[xad hcls];rfl
 ·rw[World.cell?_setCell_far _ _ _ _ (by simp),hb.cell (by simp)];exact h.c0
 ·rw[World.cell?_setCell_far _ _ _ _ (by simp),hb.cell (by simp)];exact h.c1
 ·rw[World.cell?_setCell_far _ _ _ _ (by simp),hb.cell (by simp)];exact h.c2
 ·rw[xab (by omega),hb.block _ (by omega)];exact h.str
 ·rw[hcs] at hown2
  exact ownsRow_setCell_below hown2 (by show w.heap.size+1<w.heap.size+4;omega) _
 ·rw[xbg];omega
 ·rw[xab (by omega),hb.block _ (by omega)];exact h.res
theorem xiH (w:World):Calls Tryz.prog 14 #[] w fun e w'=>∃ cv hv,e=.returned (WV cv hv 0)/\xai (fun b=>w.heap.size<=b) w' cv xoU.cz/\xaC (fun b=>w.heap.size<=b) w' hv []/\Below w.heap.size w w':=by
 obtain⟨i0,hi,hz0,hz1,hz2⟩:=xa3 xkA;go_enter Tryz.func14,Tryz.ntmps14;go_wp2
 go_loopg [12] 5 (fun g i wr=>∃ (j:Nat) (a:Option Addr) (k:Nat),j+g=5/\i=.int .i64 j/\NewR w j a k wr)
 case atStart=>
  refine⟨0,none,0,rfl,rfl,?_,?_,?_,?_,?_,?_,⟨rfl,Or.inl ⟨rfl,rfl⟩⟩,by simp,?_⟩
  ·exact (xfv _ _ _ _).alloc (by simp;omega) _
  ·rw[(xca _ _ _).block _ (by simp)];exact xba _ _ _ (by simp)
  ·exact qzA (xaj _ _) (by rw[xaa _ _ _ _ (by simp)];rfl)
  ·exact qzA (xaj _ _) (by rw[xaa _ _ _ _ (by simp)];rfl)
  ·exact qzA (xaj _ _) (by rw[xaa _ _ _ _ (by simp)];rfl)
  ·exact xba _ _ _ (by simp)
  ·rw[(xfv _ _ _ _).block _ (by simp)];exact xba _ _ _ (by simp)
 case round=>
  obtain⟨j,a,k,hg,rfl,hR⟩:=hrel;have HR:Hid (NewR w j a k wr):=hR;obtain⟨hB,hC,c0,c1,c2,hS,hown,hz,hO⟩:=hR;have hsc:∀ q,wr.cell? ⟨w.heap.size+1+1+1,q,none⟩=(#[Value.string ⟨#[42]⟩,.string ⟨#[43]⟩,.string ⟨#[45]⟩,.string ⟨#[60]⟩,.string ⟨#[61]⟩]:Array Value)[q]?:=fun q=>by rw[qzB hS]
  have hcc:wr.cell? ⟨w.heap.size+1,15,none⟩=some (.slice a j k):=by rw[qzB hC];rfl
  have hcf:∀ q,wr.frozen? ⟨w.heap.size+1,q,none⟩=false:=fun q=>by unfold World.frozen?;simp[hC]
  have hn1:w.heap.size+1<wr.heap.size:=by omega
  have hn2:w.heap.size+1+1<wr.heap.size:=by omega
  have hn3:w.heap.size+1+1+1<wr.heap.size:=by omega
  have hcc1:=fun x=>qzA (xaj wr x) hcc
  have hcc2:=fun x y=>qzA (xca wr x y) hcc
  have c01:=fun x=>qzA (xaj wr x) c0
  have c02:=fun x y=>qzA (xca wr x y) c0
  clear hS
  by_cases hj:j<5
  ·obtain⟨s,p,hs,hp,htk⟩:=xm3 j hj;obtain⟨g',rfl⟩:∃ g',gk=g'+1:=⟨gk-1,by omega⟩
   have hsj:wr.cell? ⟨w.heap.size+1+1+1,j,none⟩=some (.string s):=by rw[hsc];exact hs
   have hp':∀ h:j<[Value.int .i64 3,Value.int .i64 1,Value.int .i64 2,Value.int .i64 4,Value.int .i64 5].length,[Value.int .i64 3,Value.int .i64 1,Value.int .i64 2,Value.int .i64 4,Value.int .i64 5][j]'h=Value.int .i64 p:=fun h=>by
    rw[List.getElem_eq_iff]
    simpa using hp
   have hj5:(j:Int)<5:=by omega
   have hj0:(0:Int)<=(j:Int):=by omega
   clear hsc hs hp;go_wp2
   go_region_law (refine step_append_lies _ rfl (.tmp 23) (.tmp 30) 52 rfl (w.heap.size+4) 59 i0 _ 5 64 Tryz.underlying52 hi hz0 hz1 hz2 rfl (by decide) (.slice a j k) j (xeA.take (j*5)) (by simp[Act.eval,Act.put]) (show World.ownsRow (World.alloc _ _) _ _ _ _ _ _ from (hown.alloc _).alloc _) ⟨wr.heap.size+1,0,none⟩ 1 1 [.string s,.int .i64 1,.int .i64 0,.int .i64 p,.slice none 0 0] (by simp[Act.eval,Act.put]) rfl (fun q u hu=>by rw[Addr.add_lit,Nat.zero_add];exact (xaa (World.alloc wr _) _ 59 _ (by simp) q).trans (by simpa using hu)) (by intro u hu;simp at hu;rcases hu with rfl | rfl | rfl | rfl | rfl<;>rfl) (by omega) (by unfold maxLen;omega) (by omega) (by simp;omega) _ rfl ?_;intro gg cap2 w2 hown2 hgr hor hlt2;have hfz:w2.frozen? ⟨w.heap.size+1,15,none⟩=false:=((HR.out.grown _ _ hgr).frozen (by simp)).trans (hcf 15);have hcl:w2.cell? ⟨w.heap.size+1,15,none⟩=some (.slice a j k):=((HR.out.grown _ _ hgr).cell (by simp)).trans hcc;have c02:w2.cell? ⟨w.heap.size+1+1,0,none⟩=some (.slice (some ⟨w.heap.size+1,0,none⟩) 4 4):=((HR.out.grown _ _ hgr).cell (by simp)).trans c0)
   all_goals
    go_wp2
    go_roundg g'
    case measure=>omega
    case rel=>exact⟨j+1,some ⟨gg,0,none⟩,cap2,by omega,by go_num,HR.out.step (HR.out.grown _ _ hgr) hown2 htk.symm⟩
  ·obtain rfl:gk=0:=by omega
   obtain rfl:j=5:=by omega
   have hrc:∀ q,wr.cell? ⟨w.heap.size,q,none⟩=(#[Value.slice none 0 0,Value.slice none 0 0,Value.int .i64 0]:Array Value)[q]?:=fun q=>by rw[qzB hO]
   have hrf:∀ q,wr.frozen? ⟨w.heap.size,q,none⟩=false:=fun q=>by unfold World.frozen?;simp[hO]
   go_wp2;refine bodyPost_ret (v:=WV (.slice (some ⟨w.heap.size+1,0,none⟩) 4 4) (.slice none 0 0) 0) ?_ rfl ⟨_,_,rfl,?_,xbG,xa9 hB (qzC _) _ _ _⟩
   ·simp[results,Tryz.results14,go_sem,hrc,hrf]
   ·have hM:xbd (fun b=>w.heap.size+1<=b) wr (.slice a 5 k) xfw:=by
     obtain⟨-,⟨e,h0⟩ | ⟨g,c,cur,e,h1,h2,h3,h4,h5,h6⟩⟩:=hown
     ·cases h0
     ·cases e
      exact Cells.row xjN xbi (by omega) h2 h6 h3 h4 (by decide)
    have hR:xai (fun b=>w.heap.size+1<=b) wr (.slice (some ⟨w.heap.size+1,0,none⟩) 4 4) xgB:=Cells.row (xjD hM) xaz (by omega) hC rfl (by decide) (by unfold maxLen;omega) (by decide)
    exact hR.keep xaz (xaq (xaq (xaq (Keeps.refl _ _) (by omega) _) (by omega) _) (by omega) _) (fun b hb=>by omega)
theorem xif {xs:List QC}(h:xs.all (fun x=>decide (0<=x.slots) && decide (x.slots<=6))=true):xbL xs:=fun i x hx=>by
 have:=List.all_eq_true.1 h x (List.mem_of_getElem? hx)
 simpa using this
def xiI:List QM->Bool
 | []=>true
 | [_]=>true
 | a :: b :: r=>ltN a.name b.name && xiI (b :: r)
theorem xho:∀ {xs:List QM},xiI xs=true->RisesM xs
 | [],_=>fun i x y hx _=>by simp at hx
 | [a],_=>fun i x y hx hy=>by simp at hy
 | a :: b :: r,h=>fun i x y hx hy=>by
  unfold xiI at h;simp only[Bool.and_eq_true] at h
  cases i with
  | zero=>simp at hx hy;subst hx hy;exact h.1
  | succ i=>exact xho h.2 i x y (by simpa using hx) (by simpa using hy)
theorem xjf {xs:List QC}(h:xs.all (fun x=>xiI x.mz)=true):xiJ xs:=fun i x hx=>xho (List.all_eq_true.1 h x (List.mem_of_getElem? hx))
theorem xoF {P:Nat->Prop}(X Y:QW)(x:QC)(m:QM)(cv hv mv:Value)(w:World)(ep:Int)(hep:X.ez=ep)(ep':Int)(hep':Y.ez=ep')(hx:X.cz[4]?=some x)(hno:¬ (xcu x.mz m.name<0/\8<=x.mz.length))(hY:xhJ X 4 x m=Y)(hl:Y.cz.length=5)(hn:m.name.size<=140737488351232)(hR:xiJ X.cz)(hXh:X.heap=[])
  (hh:xai P w cv X.cz) (hH:xaC P w hv []) (hM:xa5 P w mv m.code):Calls Tryz.prog 50 #[WV cv hv ep,.int .i64 4,MV m mv] w fun e w'=>∃ a k,e=.returned (.tuple #[WV (.slice a 5 k) hv ep',.int .i64 0])/\xai (fun b=>P b\/w.heap.size<=b) w' (.slice a 5 k) Y.cz/\Below w.heap.size w w':=by
 subst hep hep';refine (xgQ X 4 m cv hv mv w hh (by rw[hXh];exact hH) hM hn hR).mono ?_
 rintro e w' ⟨⟨h,-⟩ | ⟨k,x',hk,hx',h⟩,hb⟩
 ·have:=xae hx
  simp[xcN] at h
  omega
 ·obtain rfl:k=4:=by omega
  rw[hx] at hx';cases hx'
  rcases h with ⟨h1,h2,-⟩ | ⟨-,cv',rfl,hC⟩
  ·exact absurd ⟨h1,h2⟩ hno
  ·rw[hY] at hC;obtain⟨a,k',rfl⟩:=hC.get;rw[hl] at hC ⊢;refine⟨a,k',?_,hC,hb⟩;rw[← hY];rfl
theorem xo4 {α:Type}{E:Lay α}{sz bytes:Nat}(G:Good E sz){P:Nat->Prop}(w:World)(cs:List Value)(t:TypeId)(xs:List α)(h:∀ w',Cells E sz P w' cs xs)(hP:P w.heap.size)(hs:xs.length*bytes<=140737488351232)(hm:xs.length<=maxLen):IsRow E sz bytes P (w.alloc (.cells cs.toArray t)) (.slice (some ⟨w.heap.size,0,none⟩) xs.length xs.length) xs:=
 Cells.row (h _) G hP (heap_alloc_new w _) (by rw[List.take_of_length_le (by simp[(h w).1])]) (qzC _) hm hs
theorem xdV {P:Nat->Prop}{w:World}(x:QI)(h:x.name.size<=140737488351232):Cells xe2 5 P w [.int .i64 x.op,.int .i64 x.a,.int .i64 x.b,.int .i64 x.c,.string x.name] [x]:=
 Cells.one xbl rfl ⟨rfl,rfl,rfl,rfl,rfl,h⟩
theorem bxl {w w':World}{B:Nat}{o:Obj}(h:w.heap[B]?=some o)(hb:Below w.heap.size w w'):w'.heap[B]?=some o:=by rw[hb.block _ (xaf h)];exact h
theorem xor {w:World}{B:Nat}{x y z:Value}{t:TypeId}(h:w.heap[B]?=some (.cells #[x,y,z] t (0,0))):(w.cell? ⟨B,0,none⟩=some x/\w.cell? ⟨B,1,none⟩=some y/\w.cell? ⟨B,2,none⟩=some z)/\(∀ o,w.frozen? ⟨B,o,none⟩=false):=by
 refine⟨⟨?_,?_,?_⟩,fun o=>by unfold World.frozen?;simp[h]⟩<;>rw[qzB h]<;>rfl
theorem xlx {w:World}{B:Nat}{x y z u v r:Value}{t:TypeId}(h:w.heap[B]?=some (.cells #[x,y,z] t (0,0))):(((w.setCell ⟨B,0,none⟩ u).setCell ⟨B,1,none⟩ v).setCell ⟨B,2,none⟩ r).heap[B]?=some (.cells #[u,v,r] t (0,0)):=by
 rw[xad (xad (xad h _) _) _];rfl
structure A9 (w:World)(B:Nat)(cv hv:Value)(X:QW)(w':World):Prop where
 box:w'.heap[B]?=some (.cells #[cv,hv,.int .i64 X.ez] 25 (0,0))
 C:xai (fun b=>b≠B/\w.heap.size<=b) w' cv X.cz
 H:xaC (fun b=>b≠B/\w.heap.size<=b) w' hv []
 bel:Below w.heap.size w w'
theorem A9.later {w:World}{B:Nat}{cv hv:Value}{X:QW}{w' w'':World}(h:A9 w B cv hv X w')(hb:Below w'.heap.size w' w''):A9 w B cv hv X w'':=
 ⟨bxl h.box hb,h.C.later xaz hb,h.H.later xaD hb,xah h.bel hb⟩
theorem A9.set {w:World}{B:Nat}{cv hv cv':Value}{X Y:QW}{w1 w':World}(h:A9 w B cv hv X w1)(hb:Below w1.heap.size w1 w')(hC:xai (fun b=>(b≠B/\w.heap.size<=b)\/w1.heap.size<=b) w' cv' Y.cz)(hB:w.heap.size<=B):A9 w B cv' hv Y (((w'.setCell ⟨B,0,none⟩ cv').setCell ⟨B,1,none⟩ hv).setCell ⟨B,2,none⟩ (.int .i64 Y.ez)):=by
 have hk:Keeps (fun b=>b≠B/\w.heap.size<=b) w' (((w'.setCell ⟨B,0,none⟩ cv').setCell ⟨B,1,none⟩ hv).setCell ⟨B,2,none⟩ (.int .i64 Y.ez)):=
  xaq (xaq (xaq (Keeps.refl _ _) (by simp) _) (by simp) _) (by simp) _
 have hlt:=xaf h.box;have hsz:=h.bel.size;refine⟨xlx (bxl h.box hb),(hC.mono (Q:=fun b=>b≠B/\w.heap.size<=b) xaz fun b hb=>?_).keep xaz hk fun _ h=>h,(h.H.later xaD hb).keep xaD hk fun _ h=>h,xa9 (xah h.bel hb) hB _ _ _⟩
 rcases hb with h | h
 ·exact h
 ·omega
theorem xhG {P:Nat->Prop}{w:World}{v:Value}{xs:List QV}(h:xaB P w v xs):xaB (fun b=>b<w.heap.size/\P b) w v xs:=(xbN h fun f x hx=>⟨hx,_,hx.1⟩).mono xaK fun b hb=>⟨hb.2,hb.1⟩
theorem xh4 {P:Nat->Prop}{w:World}{v:Value}{xs:List QI}(h:xa5 P w v xs):xa5 (fun b=>P b/\b<w.heap.size) w v xs:=xbN h fun f x hx=>⟨hx,_,hx.1⟩
theorem xgI {P:Nat->Prop}{w:World}{v:Value}{xs:List QM}(h:xbd P w v xs):xbd (fun b=>P b/\b<w.heap.size) w v xs:=xbN h fun f x hx=>by
 obtain⟨h0,h1,h2,h3,h4,c,h5,h6⟩:=hx
 exact⟨⟨h0,h1,h2,h3,h4,c,h5,xh4 h6⟩,_,h0⟩
theorem xfu {P:Nat->Prop}{w:World}{v:Value}{xs:List QC}(h:xai P w v xs):xai (fun b=>b<w.heap.size/\P b) w v xs:=(xbN h fun f x hx=>by
 obtain⟨h0,h1,h2,h3,c,h5,h6⟩:=hx
 exact⟨⟨h0,h1,h2,h3,c,h5,xgI h6⟩,_,h0⟩).mono xaz fun b hb=>⟨hb.2,hb.1⟩
theorem xic {P:Nat->Prop}{w:World}{v:Value}{xs:List QO}(h:xaC P w v xs):xaC (fun b=>b<w.heap.size/\P b) w v xs:=(xbN h fun f x hx=>by
 obtain⟨h0,c,h5,h6⟩:=hx
 exact⟨⟨h0,c,h5,(xhG h6).mono xaK fun b hb=>⟨hb.2,hb.1⟩⟩,_,h0⟩).mono xaD fun b hb=>⟨hb.2,hb.1⟩
def a8M:QM:=⟨⟨#[109]⟩,1,0,0,[⟨5,1,0,0,⟨#[]⟩⟩,⟨2,0,0,0,⟨#[]⟩⟩,⟨14,1,0,0,⟨#[43]⟩⟩,⟨17,0,0,0,⟨#[]⟩⟩]⟩
def a8X (ms:List QM)(ep:Int):QW:=⟨xgB++[⟨⟨#[65]⟩,0,0,ms⟩],[],ep⟩
def a8Z:QW:=⟨xgB++[⟨⟨#[65]⟩,0,0,[a8M]⟩],[⟨4,[]⟩],1⟩
theorem xpf:xcx xoU.cz ⟨#[65]⟩ 0 0=0:=by kernel_rfl
theorem xpk:xbL xoU.cz:=xif (by kernel_rfl)
theorem xo7:xhJ (a8X [] 0) 4 ⟨⟨#[65]⟩,0,0,[]⟩ a8M=a8X [a8M] 1:=by kernel_rfl
theorem xo9:xiJ (a8X [] 0).cz:=xjf (by kernel_rfl)
theorem xlJ:xaJ a8Z=0:=by kernel_rfl
theorem xoQ {lo:Nat}(cv hv:Value)(w:World)(hl:lo<=w.heap.size)(hh:xai (fun b=>lo<=b) w cv xoU.cz)(hH:xaC (fun b=>lo<=b) w hv []):Calls Tryz.prog 49 #[WV cv hv 0,.string ⟨#[65]⟩,.int .i64 0,.int .i64 0] w fun e w'=>∃ a k,e=.returned (.tuple #[WV (.slice a 5 k) hv 0,.int .i64 4,.int .i64 0])/\xai (fun b=>b<w'.heap.size/\lo<=b) w' (.slice a 5 k) (a8X [] 0).cz/\xaC (fun b=>b<w'.heap.size/\lo<=b) w' hv []/\Below w.heap.size w w':=by
 refine (xkz xoU ⟨#[65]⟩ 0 0 cv hv w (by decide) hh hH xpk).mono ?_
 rintro e w' ⟨⟨h,-⟩ | ⟨h,cv',rfl,hC⟩,hb⟩
 ·exact absurd xpf h
 ·obtain⟨a,k,rfl⟩:=hC.get;refine⟨a,k,rfl,xfu (hC.mono (Q:=fun b=>lo<=b) xaz fun b hb=>?_),xic (hH.later xaD hb),hb⟩
  rcases hb with h | h
  ·exact h
  ·omega
def a8Mc:List Value:=[.int .i64 5,.int .i64 1,.int .i64 0,.int .i64 0,.string ⟨#[]⟩,.int .i64 2,.int .i64 0,.int .i64 0,.int .i64 0,.string ⟨#[]⟩,.int .i64 14,.int .i64 1,.int .i64 0,.int .i64 0,.string ⟨#[43]⟩,.int .i64 17,.int .i64 0,.int .i64 0,.int .i64 0,.string ⟨#[]⟩]
theorem xjX {P:Nat->Prop}(w:World):Cells xe2 5 P w a8Mc a8M.code:=
 (((xdV (w:=w) ⟨5,1,0,0,⟨#[]⟩⟩ (by decide)).append xbl (xdV ⟨2,0,0,0,⟨#[]⟩⟩ (by decide))).append xbl (xdV ⟨14,1,0,0,⟨#[43]⟩⟩ (by decide))).append xbl (xdV ⟨17,0,0,0,⟨#[]⟩⟩ (by decide))
theorem obj8 {P:Nat->Prop}(w:World)(hP:P w.heap.size):xaC P (w.alloc (.cells #[.int .i64 4,.slice none 0 0] 64)) (.slice (some ⟨w.heap.size,0,none⟩) 1 1) [⟨4,[]⟩]:=
 xo4 xaD w [.int .i64 4,.slice none 0 0] 64 [⟨4,[]⟩] (fun w'=>Cells.one xaD rfl ⟨rfl,_,rfl,⟨none,0,rfl,qzC _,by decide,by decide,fun i x hx=>by simp at hx⟩⟩) hP (by decide) (by decide)
theorem xfR (w:World):Calls Tryz.prog 31 #[] w fun e w'=>∃ a k g,e=.returned (WV (.slice a 5 k) (.slice (some ⟨g,0,none⟩) 1 1) 1)/\xai (fun _=>True) w' (.slice a 5 k) a8Z.cz/\xaC (fun _=>True) w' (.slice (some ⟨g,0,none⟩) 1 1) a8Z.heap/\Below w.heap.size w w':=by
 have hb0:=xaj w (.cells #[.slice none 0 0,.slice none 0 0,.int .i64 0] 25);have hr0:=heap_alloc_new w (.cells #[.slice none 0 0,.slice none 0 0,.int .i64 0] 25);have HW0:Hid (w.heap.size<(w.alloc (.cells #[.slice none 0 0,.slice none 0 0,.int .i64 0] 25)).heap.size):=by show _<_;simp
 go_enter Tryz.func31,Tryz.ntmps31
 go_upto_region 1 with (fail)
 generalize (w.alloc (.cells #[.slice none 0 0,.slice none 0 0,.int .i64 0] 25))=W0 at *;go_wp2_with fail;refine (xiH _).mono ?_;rintro e w1 ⟨cv,hv,rfl,hC,hH,hB⟩;obtain⟨x1,y1,rfl⟩:=hC.get;obtain⟨x2,y2,rfl⟩:=hH.get;go_wp2_with fail;refine (xoQ _ _ _ hB.size hC hH).mono ?_;rintro e w2 ⟨a1,k1,rfl,hC1,hH1,hb⟩;replace hB:=xah hB hb;have hr1:=xac hr0 hB;clear hb hC hH hr0
 have hA0:A9 W0 w2.heap.size (.slice a1 5 k1) (.slice x2 0 y2) (a8X [] 0) (w2.alloc (.cells #[.slice a1 5 k1,.slice x2 0 y2,.int .i64 0] 25)):=
  ⟨heap_alloc_new _ _,(hC1.later xaz (xaj _ _)).mono xaz fun b h=>⟨by have:=h.1;omega,h.2⟩,(hH1.later xaD (xaj _ _)).mono xaD fun b h=>⟨by have:=h.1;omega,h.2⟩,xah hB (xaj _ _)⟩
 have hz:W0.heap.size<=w2.heap.size:=hB.size;have hr2:=xac hr1 (xaj w2 (.cells #[.slice a1 5 k1,.slice x2 0 y2,.int .i64 0] 25));have hlt0:=xaf hr1;clear hB hC1 hH1 hr1
 go_upto_region 2 with (fail)
 generalize (w2.alloc (.cells #[.slice a1 5 k1,.slice x2 0 y2,.int .i64 0] 25))=W3 at *;generalize w2.heap.size=B at *;obtain⟨⟨q0,q1,q2⟩,qf⟩:=xor hA0.box;have hlt:=xaf hA0.box
 have hG:xa5 (fun b=>b≠B/\W0.heap.size<=b) (W3.alloc (.cells #[.int .i64 5,.int .i64 1,.int .i64 0,.int .i64 0,.string ⟨#[]⟩,.int .i64 2,.int .i64 0,.int .i64 0,.int .i64 0,.string ⟨#[]⟩,.int .i64 14,.int .i64 1,.int .i64 0,.int .i64 0,.string ⟨#[43]⟩,.int .i64 17,.int .i64 0,.int .i64 0,.int .i64 0,.string ⟨#[]⟩] 76)) (.slice (some ⟨W3.heap.size,0,none⟩) 4 4) a8M.code:=
  xo4 xbl W3 a8Mc 76 a8M.code (fun w'=>xjX w') ⟨by omega,by omega⟩ (by decide) (by decide)
 have hb3:=xaj W3 (.cells #[.int .i64 5,.int .i64 1,.int .i64 0,.int .i64 0,.string ⟨#[]⟩,.int .i64 2,.int .i64 0,.int .i64 0,.int .i64 0,.string ⟨#[]⟩,.int .i64 14,.int .i64 1,.int .i64 0,.int .i64 0,.string ⟨#[43]⟩,.int .i64 17,.int .i64 0,.int .i64 0,.int .i64 0,.string ⟨#[]⟩] 76);replace hA0:=hA0.later hb3;have hr3:=xac hr2 hb3;go_wp2_with fail;clear q0 q1 q2 qf;refine (xoF (a8X [] 0) (a8X [a8M] 1) ⟨⟨#[65]⟩,0,0,[]⟩ a8M _ _ _ _ 0 rfl 1 rfl rfl (by simp) xo7 rfl (by decide) xo9 rfl hA0.C hA0.H hG).mono ?_
 rintro e w4 ⟨a2,k2,rfl,hC2,hb4⟩;have hA1:A9 W0 B (.slice a2 5 k2) (.slice x2 0 y2) (a8X [a8M] 1) (((w4.setCell ⟨B,0,none⟩ (.slice a2 5 k2)).setCell ⟨B,1,none⟩ (.slice x2 0 y2)).setCell ⟨B,2,none⟩ (.int .i64 1)):=hA0.set (Y:=a8X [a8M] 1) hb4 hC2 hz;obtain⟨⟨q0,q1,q2⟩,qf⟩:=xor (bxl hA0.box hb4)
 have hr4:(((w4.setCell ⟨B,0,none⟩ (.slice a2 5 k2)).setCell ⟨B,1,none⟩ (.slice x2 0 y2)).setCell ⟨B,2,none⟩ (.int .i64 1)).heap[w.heap.size]?=some (.cells #[.slice none 0 0,.slice none 0 0,.int .i64 0] 25 (0,0)):=by
  rw[xab (by omega),xab (by omega),xab (by omega)];exact xac hr3 hb4
 clear hC2 hG hA0 hb4 hb3 hlt hr2 hr3
 go_upto_region 3 with (fail)
 generalize (((w4.setCell ⟨B,0,none⟩ (.slice a2 5 k2)).setCell ⟨B,1,none⟩ (.slice x2 0 y2)).setCell ⟨B,2,none⟩ (.int .i64 1))=W5 at *;clear q0 q1 q2 qf;obtain⟨⟨q0,q1,q2⟩,qf⟩:=xor hA1.box;have hlt:=xaf hA1.box;have hW0:w.heap.size<W0.heap.size:=HW0.out;have hsz1:(W5.setCell ⟨B,1,none⟩ (.slice (some ⟨W5.heap.size,0,none⟩) 1 1)).heap.size=W5.heap.size:=by simp
 have hO:=obj8 (P:=fun b=>b≠B/\W0.heap.size<=b) (W5.setCell ⟨B,1,none⟩ (.slice (some ⟨W5.heap.size,0,none⟩) 1 1)) ⟨by rw[hsz1];omega,by rw[hsz1];omega⟩
 rw[hsz1] at hO;have hb5:Below (W5.setCell ⟨B,1,none⟩ (.slice (some ⟨W5.heap.size,0,none⟩) 1 1)).heap.size (W5.setCell ⟨B,1,none⟩ (.slice (some ⟨W5.heap.size,0,none⟩) 1 1)) ((W5.setCell ⟨B,1,none⟩ (.slice (some ⟨W5.heap.size,0,none⟩) 1 1)).alloc (.cells #[.int .i64 4,.slice none 0 0] 64)):=xaj _ _;have hne:¬ w.heap.size=B:=by omega
 have hne':¬ B=w.heap.size:=by omega
 have hU:((W5.setCell ⟨B,1,none⟩ (.slice (some ⟨W5.heap.size,0,none⟩) 1 1)).alloc (.cells #[.int .i64 4,.slice none 0 0] 64)).heap[B]?=some (.cells #[.slice a2 5 k2,.slice (some ⟨W5.heap.size,0,none⟩) 1 1,.int .i64 1] 25 (0,0)):=xac (by rw[xad hA1.box];rfl) hb5
 have hUr:((W5.setCell ⟨B,1,none⟩ (.slice (some ⟨W5.heap.size,0,none⟩) 1 1)).alloc (.cells #[.int .i64 4,.slice none 0 0] 64)).heap[w.heap.size]?=some (.cells #[.slice none 0 0,.slice none 0 0,.int .i64 0] 25 (0,0)):=xac (by rw[xab hne];exact hr4) hb5
 have hkU:Keeps (fun b=>b≠B/\W0.heap.size<=b) W5 (W5.setCell ⟨B,1,none⟩ (.slice (some ⟨W5.heap.size,0,none⟩) 1 1)):=xaq (Keeps.refl _ _) (by simp) _
 have HC5:=hid ((hA1.C.keep xaz hkU fun _ h=>h).later xaz hb5)
 have HO5:=hid hO;have HB5:Hid (Below w.heap.size w ((W5.setCell ⟨B,1,none⟩ (.slice (some ⟨W5.heap.size,0,none⟩) 1 1)).alloc (.cells #[.int .i64 4,.slice none 0 0] 64))):=xah ((xah hb0 hA1.bel).setCell (by show w.heap.size<=B;omega) _) hb5
 clear hr4 hO hkU hb5 hsz1;have hF:(∀ o,W5.frozen? ⟨B,o,none⟩=false):=qf;clear hA1
 go_upto_region 4 with (fail)
 generalize ((W5.setCell ⟨B,1,none⟩ (.slice (some ⟨W5.heap.size,0,none⟩) 1 1)).alloc (.cells #[.int .i64 4,.slice none 0 0] 64))=U at *;generalize W5.heap.size=G at *;clear q0 q1 q2 qf hF;obtain⟨⟨p0,p1,p2⟩,pf⟩:=xor hU;obtain⟨⟨r0,r1,r2⟩,rf⟩:=xor hUr;clear hU hUr;go_wp2;have hk:Keeps (fun b=>b≠B/\W0.heap.size<=b) U (((U.setCell ⟨w.heap.size,0,none⟩ (.slice a2 5 k2)).setCell ⟨w.heap.size,1,none⟩ (.slice (some ⟨G,0,none⟩) 1 1)).setCell ⟨w.heap.size,2,none⟩ (.int .i64 1)):=xaq (xaq (xaq (Keeps.refl _ _) (by omega) _) (by omega) _) (by omega) _
 refine bodyPost_ret (v:=WV (.slice a2 5 k2) (.slice (some ⟨G,0,none⟩) 1 1) 1) ?_ rfl ⟨a2,k2,G,rfl,HC5.out.keep xaz hk fun _ _=>trivial,HO5.out.keep xaD hk fun _ _=>trivial,((HB5.out.setCell (by simp) _).setCell (by simp) _).setCell (by simp) _⟩
 simp[results,Tryz.results31,go_sem,r0,r1,r2]
end Go.Proofs.YtapbeiccodnniaaGreat
