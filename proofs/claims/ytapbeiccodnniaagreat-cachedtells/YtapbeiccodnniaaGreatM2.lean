/- A part. -/
import Derived.Test.YtapbeiccodnniaaGreatM1
import Derived.Deep.AppendLies
import Derived.Deep.SlicePairs
import Derived.SizedLaws
import Derived.ChangeOld
import Derived.Lib.SmallJoins
namespace Go.Proofs.YtapbeiccodnniaaGreat
open Go.ChangeShapes Go.WideShapes Go.ChangeAt Go.RowKit
set_option linter.unusedSimpArgs false
set_option linter.unusedVariables false
set_option maxHeartbeats 8000000
set_option maxRecDepth 8000
theorem xeb (s:ByteArray)(w:World)(hs:s.size<=140737488351232):Calls Tryz.prog 15 #[.string s] w fun e w'=>e=.returned (.bool (xbf s))/\Below w.heap.size w w':=by
 have HN0:Hid (okB s=false->xbf s=false):=fun h=>by simp[xbf,h]
 go_enter Tryz.func15,Tryz.ntmps15;go_wp2
 go_loopg [6] s.size (fun g c wr=>∃ j:Nat,j+g=s.size/\c=.int .i64 j/\wr=w/\∀ i (hi:i<s.size),i<j->33<=s[i].toNat/\s[i].toNat<=126)
 case atStart=>exact⟨0,by omega,rfl,rfl,fun i _ hi=>by omega⟩
 case round=>
  obtain⟨j,hj,rfl,rfl,hok⟩:=hrel;have HO:Hid (∀ i (hi:i<s.size),i<j->33<=s[i].toNat/\s[i].toNat<=126):=hok;clear hok
  by_cases hlt:j<s.size
  ·have hj0:(0:Int)<=(j:Int):=by omega
   have hj1:(j:Int)<(s.size:Int):=by omega
   by_cases c1:s[j].toNat<33
   ·have hn:Hid (okB s=false):=xfK hlt (by omega)
    have c1':((s[j].toNat:Nat):Int)<33:=by omega
    go_wp2
    go_ret
    exact⟨xb7 (by rw[HN0.out hn.out]),qzL _ _⟩
   ·have c1':(33:Int)<=((s[j].toNat:Nat):Int):=by omega
    by_cases c2:126<s[j].toNat
    ·have hn:Hid (okB s=false):=xfK hlt (by omega)
     have c2':(126:Int)<((s[j].toNat:Nat):Int):=by omega
     go_wp2
     go_ret
     exact⟨xb7 (by rw[HN0.out hn.out]),qzL _ _⟩
    ·have c2':((s[j].toNat:Nat):Int)<=126:=by omega
     have HT:Hid (33<=s[j].toNat/\s[j].toNat<=126):=by constructor<;>omega
     clear c1 c2;go_wp2
     go_roundg (gk-1)
     case measure=>omega
     case rel=>
      refine⟨j+1,by omega,by go_num,rfl,fun i hi hij=>?_⟩
      by_cases he:i=j
      ·subst he;exact HT.out
      ·exact HO.out i hi (by omega)
  ·have HK:Hid (okB s=true):=xib fun i hi=>HO.out i hi (by omega)
   by_cases h0:0<s.size
   ·have h0':(0:Int)<(s.size:Int):=by omega
    go_wp2
    go_ret
    exact⟨xb7 (by unfold xbf;rw[HK.out,Bool.and_true,Bool.eq_iff_iff];simp;omega),qzL _ _⟩
   ·have h0':(s.size:Int)<=0:=by omega
    go_wp2
    go_ret
    exact⟨xb7 (by unfold xbf;rw[HK.out,Bool.and_true,Bool.eq_iff_iff];simp;omega),qzL _ _⟩
def xpj:Lay Int:=fun _ _ f x=>f 0=some (.int .i64 x)
abbrev xiS:=IsRow xpj 1 8
theorem xlb:Good xpj 1 where
 move h _ _ hf:=hf 0 (by omega) _ h
 there h k hk:=by
  obtain rfl:k=0:=by omega
  exact⟨_,h,rfl⟩
 pos:=by omega
theorem xi2 {P:Nat->Prop}{w:World}(l:List Int):Cells xpj 1 P w (l.map fun x=>.int .i64 x) l:=by
 refine⟨by simp,fun i x hx=>?_⟩
 show (l.map fun x=>Value.int .i64 x)[i*1+0]?=_
 simp[hx]
def xde (xs:List QC):Nat->Int->List Int
 | 0,_=>[]
 | n+1,c=>match xby xs c with
  | none=>[]
  | some x=>c :: xde xs n x.super
theorem xh7:(Tryz.prog.info? 3).map (fun i=>(i.zero,i.size,i.bytes))=some (some (.int .i64 0),1,8):=by kernel_rfl
theorem xcr {wr w2:World}{B:Nat}{X:Obj}{a:Option Addr}{e:TypeId}{sz n k:Nat}{xs:List Value}(hown:wr.ownsRow B e sz (.slice a n k) n xs)(hB:B<=wr.heap.size)(hgr:(wr.alloc X).grownBy w2 (Value.ownBlock (.slice a n k))):Below B wr w2:=by
 refine ((qzL B wr).alloc hB X).grown hgr (by simp;omega) (fun k' hk'=>?_)
 obtain⟨-,⟨e,-⟩ | ⟨g,c,cur,e,h1,-⟩⟩:=hown
 ·rw[e] at hk';cases hk'
 ·rw[e] at hk'
  simp[Value.ownBlock] at hk'
  omega
theorem xle {P:Nat->Prop}(xs:List QC)(c0:Int)(cv hv:Value)(ep:Int)(w:World)(hh:xai P w cv xs)(hhv:∃ a n c,hv=.slice a n c):Calls Tryz.prog 36 #[WV cv hv ep,.int .i64 c0] w fun e w'=>∃ ad cap,e=.returned (.slice ad (xde xs (xs.length+1) c0).length cap)/\xiS (fun b=>w.heap.size<=b) w' (.slice ad (xde xs (xs.length+1) c0).length cap) (xde xs (xs.length+1) c0)/\Below w.heap.size w w':=by
 obtain⟨ad,cap,rfl,hl,hcap,hby,hrow⟩:=id hh;obtain⟨ah,nh,ch,rfl⟩:=hhv;obtain⟨i0,hi,hz0,hz1,hz2⟩:=xa3 xh7;go_enter Tryz.func36,Tryz.ntmps36;go_wp2
 go_loopg [1,5] (xs.length+1) (fun g c' l wr=>∃ (pre:List Int) (cc:Int) (a:Option Addr) (k:Nat),pre.length+g=xs.length+1/\c'=.int .i64 cc/\l=.slice a pre.length k/\Below (w.heap.size+1) (w.alloc (Obj.cells #[.slice ad xs.length cap,.slice ah nh ch,.int .i64 ep] 25)) wr/\wr.ownsRow (w.heap.size+1) 3 1 (.slice a pre.length k) pre.length (pre.map fun x=>.int .i64 x)/\xde xs (xs.length+1) c0=pre++xde xs g cc)
 case atStart=>exact⟨[],c0,none,0,by simp,rfl,rfl,(qzL _ _),⟨by simp,Or.inl ⟨rfl,rfl⟩⟩,rfl⟩
 case round=>
  obtain⟨pre,cc,a,k,hg,rfl,rfl,hbel,hown,hE⟩:=hrel;have HE:Hid (xde xs (xs.length+1) c0=pre++xde xs gk cc):=hE;clear hE;have hbw:Below w.heap.size w wr:=(xaj _ _).trans (hbel.mono (by omega))
  have b0:wr.cell? ⟨w.heap.size,0,none⟩=some (.slice ad xs.length cap):=by rw[hbel.cell (by simp)];simp
  have hk':pre.length<=xs.length+1:=by omega
  have hkk:pre.length<=k:=by
   obtain⟨-,h | ⟨g,c,cur,e,-,-,h1,-⟩⟩:=hown;· omega
   ·cases e;exact h1
  have hend:∀ (hz:xde xs gk cc=[]),∃ ad cap,Ending.returned (.slice a pre.length k)=.returned (.slice ad (xde xs (xs.length+1) c0).length cap)/\xiS (fun b=>w.heap.size<=b) wr (.slice ad (xde xs (xs.length+1) c0).length cap) (xde xs (xs.length+1) c0)/\Below w.heap.size w wr:=fun hz=>by
   rw[HE.out,hz,List.append_nil];refine⟨a,k,rfl,?_,hbw⟩;obtain⟨-,⟨e,h0⟩ | ⟨g,c,cur,e,h1,h2,h3,h4,h5,h6⟩⟩:=hown
   ·have:pre=[]:=List.eq_nil_of_length_eq_zero h0;subst this;refine⟨a,k,rfl,by simp,?_,by simp,fun i x hx=>by simp at hx⟩
    cases e;unfold maxLen;omega
   ·cases e
    exact (xi2 pre).row xlb (by omega) h2 h6 h3 h4 (by omega)
  cases hx:xby xs cc with
  | none=>
   have hz:Hid (xde xs gk cc=[]):=by show _=_;cases gk<;>simp[xde,hx]
   by_cases h0:0<=cc
   ·have h1:(xs.length:Int)<=cc:=by
     have:=xdo (xs:=xs) (c:=cc);rw[hx] at this
     simp[xcN] at this
     omega
    go_wp2
    go_ret
    exact hend hz.out
   ·have h0':cc<0:=by omega
    have hd:decide (0<=cc)=false:=by simpa using h0
    go_wp2
    go_ret
    exact hend hz.out
  | some x=>
   obtain⟨q,rfl,hxq⟩:=xbn hx;have hq:=xae hxq;have hq0:(0:Int)<=(q:Int):=by omega
   have hq1:(q:Int)<(xs.length:Int):=by omega
   by_cases hfu:pre.length<=xs.length
   ·obtain⟨g',rfl⟩:∃ g',gk=g'+1:=⟨gk-1,by omega⟩
    have HX:Hid (xby xs (q:Int)=some x):=hx;obtain⟨b,o,rfl,-,-,hv1,-⟩:=hrow q x hxq;have v1:=qzA hbw hv1;have hf1:(pre.length:Int)<=(xs.length:Int):=by omega
    have hbl:b<w.heap.size:=World.block_lt_of_cell? _ _ hv1;have hzr:w.heap.size+1<=wr.heap.size:=by have:=hbel.size;simpa using this
    clear hx hxq hend hrow
    go_wp2_with (at_builtin;refine wpList_append_lies _ rfl (.tmp 23) (.tmp 25) 87 rfl (w.heap.size+1) 3 i0 _ 1 8 Tryz.underlying87 hi hz0 hz1 hz2 rfl (by decide) _ pre.length _ rfl (hown.alloc _) ⟨_,0,none⟩ 1 1 [.int .i64 q] rfl rfl (fun j u hu=>(by have:=xae hu;simp at this;subst this;simp at hu;subst hu;rw[Addr.add_lit];exact (xaa wr _ 3 _ rfl 0).trans rfl)) (by simp;rfl) (by omega) (by unfold maxLen;omega) (by omega) (by simp;have:=hbel.size;simp at this;omega) _ rfl ?_;intro gg cap2 w2 hown2 hgr hor hlt2;have hb2:=xcr hown hzr hgr;have v1:=(hb2.cell (p:=⟨b,o+q*4+1,none⟩) (by simp;omega)).trans v1;have b0:=(hb2.cell (p:=⟨w.heap.size,0,none⟩) (by simp)).trans b0)
    go_roundg g'
    case measure=>omega
    case rel=>
     refine⟨pre++[(q:Int)],x.super,some ⟨gg,0,none⟩,cap2,by simp;omega,rfl,by simp,hbel.trans hb2,?_,?_⟩
     ·simpa using hown2
     ·rw[HE.out]
      simp[xde,HX.out]
   ·obtain rfl:gk=0:=by omega
    have hf1:(xs.length:Int)<(pre.length:Int):=by omega
    go_wp2
    go_ret
    exact hend rfl
theorem xdS {xs:List QC}:∀ (n:Nat) (c:Int) (i:Nat) (k:Int),(xde xs n c)[i]?=some k->∃ (q:Nat) (x:QC),k=(q:Int)/\xs[q]?=some x
 | 0,c,i,k,h=>by simp[xde] at h
 | n+1,c,i,k,h=>by
  unfold xde at h
  cases hx:xby xs c with
  | none=>rw[hx] at h;simp at h
  | some x=>
   rw[hx] at h
   cases i with
   | zero=>
    simp at h
    subst h;obtain⟨q,rfl,hq⟩:=xbn hx
    exact⟨q,x,rfl,hq⟩
   | succ i=>simp at h;exact xdS n x.super i k h
def xe5 (xs:List QC)(k:Int):Int:=((xby xs k).map QC.slots).getD 0
def xfd (xs:List QC):List Int->Int
 | []=>0
 | k :: r=>xe5 xs k+xfd xs r
theorem xkF {xs:List QC}:∀ (n:Nat) (c s:Int),upE xd6 xs n c s=s+xfd xs (xde xs n c)
 | 0,c,s=>by simp[upE,xde,xfd]
 | n+1,c,s=>by
  unfold upE xde
  cases hx:xby xs c with
  | none=>simp[xfd]
  | some x=>
   have h1:xe5 xs c=x.slots:=by simp[xe5,hx]
   have h2:=xkF (xs:=xs) n x.super (s+x.slots);simp only[xd6,if_true,xfd,h1] at h2 ⊢;rw[h2]
   omega
theorem xjK {xs:List QC}(c:Int):xaP xs c=xfd xs (xde xs (xs.length+1) c):=by
 unfold xaP;rw[xkF]
 omega
theorem xgq {xs:List QC}:∀ (n:Nat) (c:Int),(xde xs n c).length<=n
 | 0,c=>by simp[xde]
 | n+1,c=>by
  unfold xde
  cases hx:xby xs c with
  | none=>simp
  | some x=>simp;exact xgq n x.super
theorem xin {xs:List QC}(l r:List Int):xfd xs (l++r)=xfd xs l+xfd xs r:=by
 induction l with
 | nil=>simp[xfd]
 | cons a l ih=>simp only[List.cons_append,xfd,ih];omega
theorem xjm {xs:List QC}(ho:xbL xs)(l:List Int):0<=xfd xs l/\xfd xs l<=6*l.length:=by
 induction l with
 | nil=>simp[xfd]
 | cons a l ih=>
  have:0<=xe5 xs a/\xe5 xs a<=6:=by
   unfold xe5
   cases hx:xby xs a with
   | none=>simp
   | some x=>
    obtain⟨q,-,hq⟩:=xbn hx
    simpa using ho q x hq
  simp only[xfd,List.length_cons]
  omega
theorem xcp {P:Nat->Prop}(X:QW)(c:Int)(cv hv:Value)(w:World)(hh:xai P w cv X.cz)(hH:xaC P w hv X.heap)(ho:xbL X.cz):Calls Tryz.prog 16 #[WV cv hv X.ez,.int .i64 c] w fun e w'=>e=.returned (.int .i64 (xaP X.cz c))/\Below w.heap.size w w':=by
 obtain⟨ad,cap,rfl,hl,hcap,hby,hrow⟩:=id hh;obtain⟨ah,ch,rfl⟩:=hH.get;have hul:=xgq (xs:=X.cz) (X.cz.length+1) c;have HS:Hid (xaP X.cz c=xfd X.cz (xde X.cz (X.cz.length+1) c)):=xjK c;have HM:Hid (∀ (i:Nat) (k:Int),(xde X.cz (X.cz.length+1) c)[i]?=some k->∃ (q:Nat) (x:QC),k=(q:Int)/\X.cz[q]?=some x):=fun i k h=>xdS _ _ i k h
 go_enter Tryz.func16,Tryz.ntmps16;go_wp2_with fail;refine (xle X.cz c _ _ X.ez _ (hh.later xaz (xaj _ _)) ⟨_,_,_,rfl⟩).mono ?_;rintro e w1 ⟨au,ku,rfl,hI,hb⟩;have b0:w1.cell? ⟨w.heap.size,0,none⟩=some (.slice ad X.cz.length cap):=qzA hb (by rw[xaa _ _ _ _ rfl];rfl)
 have hB:=xbz (qzL _ _) hb;generalize xde X.cz (X.cz.length+1) c=us at *;obtain⟨a',k',e',-,-,-,hru⟩:=hI;simp only[Value.slice.injEq] at e';obtain⟨rfl,-,rfl⟩:=e';go_wp2
 go_loopg [5,12] us.length (fun g s i wr=>∃ j:Nat,j+g=us.length/\i=.int .i64 j/\s=.int .i64 (xfd X.cz (us.take j))/\wr=w1)
 case atStart=>exact⟨0,by omega,rfl,rfl,rfl⟩
 case round=>
  obtain⟨j,hj,rfl,rfl,rfl⟩:=hrel
  by_cases hlt:j<us.length
  ·have hus:us[j]?=some us[j]:=by simp[hlt]
   obtain⟨bu,ou,rfl,-,hu⟩:=hru j _ hus;simp only[Nat.mul_one,Nat.add_zero] at hu;obtain⟨q,x,hkq,hxq⟩:=HM.out j _ hus;have hq:=xae hxq;obtain⟨b,o,rfl,-,-,-,hv2,-⟩:=hrow q x hxq;have v2:=qzA hB hv2
   have HT:Hid (xfd X.cz (us.take (j+1))=xfd X.cz (us.take j)+x.slots):=by
    show _=_
    rw[List.take_add_one,hus,xin]
    simp[xfd,xe5,hkq,xfp,hxq]
   obtain⟨o1,o2⟩:=ho q x hxq;have hr1:=xjm ho (us.take j);have hr2:((us.take j).length:Int)<=us.length:=by simp;omega
   have hw:IntKind.i64.wrap (xfd X.cz (us.take j)+x.slots)=xfd X.cz (us.take j)+x.slots:=by rw[IntKind.wrap_i64];omega
   replace hu:wr.cell? ⟨bu,ou+j,none⟩=some (.int .i64 (q:Int)):=by rw[← hkq];exact hu
   have hq0:(0:Int)<=(q:Int):=by omega
   have hq1:(q:Int)<(X.cz.length:Int):=by omega
   have hj0:(0:Int)<=(j:Int):=by omega
   have hj1:(j:Int)<(us.length:Int):=by omega
   clear hrow hru hus hkq hxq hv2;generalize xfd X.cz (us.take j)=sm at *;go_wp2
   go_roundg (gk-1)
   case measure=>omega
   case rel=>exact⟨j+1,by omega,by go_num,by rw[HT.out],rfl⟩
  ·go_wp2
   go_ret
   refine⟨xak ?_,hB⟩;rw[HS.out,List.take_of_length_le (by omega)]
theorem xlw {xs:List QM}{name:ByteArray}(h:xcu xs name<0):xcu xs name=-1:=by
 unfold xcu xbt at h ⊢
 cases hf:xs.findIdx? (fun m=>eqN m.name name) with
 | none=>simp
 | some i=>rw[hf] at h;simp at h;omega
def xbD (xs:List QC)(k:Int):List QM:=((xby xs k).map QC.mz).getD []
def xcZ (xs:List QC)(name:ByteArray):List Int->Int × Int
 | []=>(-1,-1)
 | k :: r=>if 0<=xcu (xbD xs k) name then (k,xcu (xbD xs k) name) else xcZ xs name r
theorem xiM {xs:List QC}{name:ByteArray}:∀ (n:Nat) (c:Int),upE (xfq name) xs n c (-1,-1)=xcZ xs name (xde xs n c)
 | 0,c=>rfl
 | n+1,c=>by
  unfold upE xde
  cases hx:xby xs c with
  | none=>rfl
  | some x=>
   have hm:xbD xs c=x.mz:=by simp[xbD,hx]
   obtain⟨q,rfl,-⟩:=xbn hx;simp only[xcZ,hm,xfq,Int.toNat_natCast]
   by_cases h:0<=xcu x.mz name
   ·have h':¬ xcu x.mz name<0:=by omega
    simp[h,h']
   ·have h':xcu x.mz name<0:=by omega
    rw[if_neg h,if_neg h,decide_eq_true h',if_pos rfl,xlw h']
    exact xiM n x.super
theorem xeo {xs:List QC}(c:Int)(name:ByteArray):xaw xs c name=xcZ xs name (xde xs (xs.length+1) c):=xiM _ _
theorem xfP {xs:List QC}{name:ByteArray}:∀ {l:List Int},(∀ (i:Nat) k,l[i]?=some k->xcu (xbD xs k) name<0)->xcZ xs name l=(-1,-1)
 | [],_=>rfl
 | k :: r,h=>by
  have h0:=h 0 k rfl;unfold xcZ;rw[if_neg (by omega)]
  exact xfP fun i q hq=>h (i+1) q (by simpa using hq)
theorem xiA {xs:List QC}{name:ByteArray}:∀ {l:List Int} {j:Nat} {k:Int},l[j]?=some k->0<=xcu (xbD xs k) name->(∀ (i:Nat) q,i<j->l[i]?=some q->xcu (xbD xs q) name<0)->xcZ xs name l=(k,xcu (xbD xs k) name)
 | a :: r,0,k,hk,h0,_=>by
  simp at hk
  subst hk;unfold xcZ;rw[if_pos h0]
 | a :: r,j+1,k,hk,h0,h=>by
  have h1:=h 0 a (by omega) rfl
  unfold xcZ;rw[if_neg (by omega)]
  exact xiA (by simpa using hk) h0 fun i q hi hq=>h (i+1) q (by omega) (by simpa using hq)
theorem xhs {P:Nat->Prop}(X:QW)(c:Int)(name:ByteArray)(cv hv:Value)(w:World)(hh:xai P w cv X.cz)(hH:xaC P w hv X.heap):Calls Tryz.prog 19 #[WV cv hv X.ez,.int .i64 c,.string name] w fun e w'=>e=.returned (.tuple #[.int .i64 (xaw X.cz c name).1,.int .i64 (xaw X.cz c name).2])/\Below w.heap.size w w':=by
 obtain⟨ad,cap,rfl,hl,hcap,hby,hrow⟩:=id hh;obtain⟨ah,ch,rfl⟩:=hH.get;have hul:=xgq (xs:=X.cz) (X.cz.length+1) c;have HS:Hid (xaw X.cz c name=xcZ X.cz name (xde X.cz (X.cz.length+1) c)):=xeo c name;have HM:Hid (∀ (i:Nat) (k:Int),(xde X.cz (X.cz.length+1) c)[i]?=some k->∃ (q:Nat) (x:QC),k=(q:Int)/\X.cz[q]?=some x):=fun i k h=>xdS _ _ i k h
 go_enter Tryz.func19,Tryz.ntmps19;go_wp2_with fail;refine (xle X.cz c _ _ X.ez _ (hh.later xaz (xaj _ _)) ⟨_,_,_,rfl⟩).mono ?_;rintro e w1 ⟨au,ku,rfl,hI,hb⟩;have b0:w1.cell? ⟨w.heap.size,0,none⟩=some (.slice ad X.cz.length cap):=qzA hb (by rw[xaa _ _ _ _ rfl];rfl)
 have hB:=xbz (qzL _ _) hb;generalize xde X.cz (X.cz.length+1) c=us at *;go_wp2
 go_loopg [16] us.length (fun g i wr=>∃ j:Nat,j+g=us.length/\i=.int .i64 j/\Below w1.heap.size w1 wr/\∀ (i:Nat) q,i<j->us[i]?=some q->xcu (xbD X.cz q) name<0)
 case atStart=>exact⟨0,by omega,rfl,qzL _ _,fun i q hi=>by omega⟩
 case round=>
  obtain⟨j,hj,rfl,hbel,hno⟩:=hrel;have HN:Hid (∀ (i:Nat) q,i<j->us[i]?=some q->xcu (xbD X.cz q) name<0):=hno;clear hno;have hB1:=xah hB hbel
  by_cases hlt:j<us.length
  ·have hus:us[j]?=some us[j]:=by simp[hlt]
   obtain⟨a',k',e',-,-,-,hru⟩:=hI.later xlb hbel;simp only[Value.slice.injEq] at e';obtain⟨rfl,-,rfl⟩:=e';obtain⟨bu,ou,rfl,-,hu⟩:=hru j _ hus;simp only[Nat.mul_one,Nat.add_zero] at hu;obtain⟨q,x,hkq,hxq⟩:=HM.out j _ hus;have hq:=xae hxq;obtain⟨b,o,rfl,-,-,-,-,-,sv,hv3,hms⟩:=hrow q x hxq;have v3:=qzA hB1 hv3;have HMO:Hid (xbD X.cz (q:Int)=x.mz):=by show _=_;simp[xbD,xfp,hxq]
   have hmsl:=hms.later xbi hB1;obtain⟨am,km,rfl,hlm,hkm,hbm,-⟩:=id hmsl;unfold maxLen at hkm;replace hu:wr.cell? ⟨bu,ou+j,none⟩=some (.int .i64 (q:Int)):=by rw[← hkq];exact hu
   have HU:Hid (us[j]?=some (q:Int)):=by show _=_;rw[hus,hkq]
   have b0':=qzA hbel b0;have hq0:(0:Int)<=(q:Int):=by omega
   have hq1:(q:Int)<(X.cz.length:Int):=by omega
   have hj0:(0:Int)<=(j:Int):=by omega
   have hj1:(j:Int)<(us.length:Int):=by omega
   clear hru hus hkq hxq hv3 hms;go_wp2;obtain⟨go,hgo⟩:∃ go,go=gk:=⟨_,rfl⟩
   go_loopg [27] x.mz.length (fun g i wi=>∃ t:Nat,t+g=x.mz.length/\i=.int .i64 t/\Below wr.heap.size wr wi/\∀ (i:Nat) y,i<t->x.mz[i]?=some y->eqN y.name name=false)
   case atStart=>exact⟨0,by omega,rfl,qzL _ _,fun i q hi=>by omega⟩
   case round=>
    obtain⟨t,ht,rfl,hbi,hnt⟩:=hrel;have HT:Hid (∀ (i:Nat) y,i<t->x.mz[i]?=some y->eqN y.name name=false):=hnt;clear hnt
    by_cases htl:t<x.mz.length
    ·obtain⟨a0,k0,e0,-,-,-,hrm⟩:=hmsl.later xbi hbi;simp only[Value.slice.injEq] at e0;obtain⟨rfl,-,rfl⟩:=e0;obtain⟨b2,o2,rfl,-,p0,p1,p2,p3,-,sv,p4,hcc⟩:=hrm t x.mz[t] (by simp[htl])
     have hxt:Hid (x.mz[t]?=some x.mz[t]):=by show _=_;simp[htl]
     generalize x.mz[t]=y at *;simp only[Nat.add_zero] at p0;obtain⟨ac,kc,rfl⟩:=hcc.get;have ht1:(t:Int)<(x.mz.length:Int):=by omega
     have ht0:(0:Int)<=(t:Int):=by omega
     clear hrm
     cases he:eqN y.name name
     ·have he':(y.name.toList == name.toList)=false:=he;go_wp2
      go_roundg (gk-1)
      case measure=>omega
      case rel=>
       refine⟨t+1,by omega,by go_num,xah hbi (xaj _ _),fun i z hi hz=>?_⟩
       by_cases hit:i=t
       ·subst hit;rw[hxt.out] at hz;cases hz;exact he
       ·exact HT.out i z (by omega) hz
     ·have he':(y.name.toList == name.toList)=true:=he;have hnum:Hid (xcu x.mz name=(t:Int)):=xb4 hxt.out he HT.out;go_wp2;refine qzK (v:=.tuple #[.int .i64 q,.int .i64 t]) (by simp[results,Tryz.results19,go_sem]) rfl ⟨?_,xah hB1 (xah hbi (xaj _ _))⟩
      rw[HS.out,xiA HU.out (by rw[HMO.out,hnum.out];omega) HN.out,HMO.out,hnum.out]
    ·have hnum:Hid (xcu x.mz name<0):=by
      show _<_
      have:xcu x.mz name=-1:=xbM fun i y hy=>HT.out i y (by have:=xae hy;omega) hy
      omega
     go_wp2
     go_roundg (go-1)
     case measure=>omega
     case rel=>
      refine⟨j+1,by omega,by go_num,xah hbel hbi,fun i z hi hz=>?_⟩
      by_cases hij:i=j
      ·subst hij;rw[HU.out] at hz;cases hz;rw[HMO.out];exact hnum.out
      ·exact HN.out i z (by omega) hz
  ·go_wp2;refine qzK (v:=.tuple #[.int .i64 (-1),.int .i64 (-1)]) (by simp[results,Tryz.results19,go_sem]) rfl ⟨?_,hB1⟩
   rw[HS.out,xfP fun i k hk=>HN.out i k (by have:=xae hk;omega) hk]
theorem xnV:Tryz.prog.bytesOf 76=48:=by kernel_rfl
theorem xnS:Tryz.prog.bytesOf 59=64:=by kernel_rfl
theorem xn8:Tryz.prog.bytesOf 54=56:=by kernel_rfl
theorem xm4:Tryz.prog.bytesOf 27=16:=by kernel_rfl
theorem xn1:Tryz.prog.bytesOf 64=32:=by kernel_rfl
theorem xnx:Tryz.prog.cellsOf 76=5:=by kernel_rfl
theorem xnL:Tryz.prog.cellsOf 59=5:=by kernel_rfl
theorem xno:Tryz.prog.cellsOf 54=4:=by kernel_rfl
theorem xld:Tryz.prog.cellsOf 27=2:=by kernel_rfl
theorem xnz:Tryz.prog.cellsOf 64=2:=by kernel_rfl
theorem xgN:Tryz.prog.cellsOf 3=1:=by kernel_rfl
theorem xiE:Tryz.prog.cellsOf 9=1:=by kernel_rfl
theorem xng:Tryz.prog.cellsOf 57=1:=by kernel_rfl
theorem xol:Tryz.prog.cellsOf 52=1:=by kernel_rfl
theorem xls:Tryz.prog.cellsOf 28=1:=by kernel_rfl
theorem xnr:Tryz.prog.cellsOf 25=3:=by kernel_rfl
theorem xnY:laidOutB Tryz.prog=true:=by kernel_rfl
theorem own:ownKnob Tryz.prog.godebug=none:=by kernel_rfl
abbrev Tru:Nat->Prop:=fun _=>True
theorem xi5 {H:Type}{P:Program}{e:TypeId}:∀ {l:List (DataW H)} {d:DataW H},d∈l->∀ n∈d.weights P e,n∈DataW.weightsAll P e l
 | d' :: r,d,hd,n,hn=>by
  simp only[DataW.weightsAll,List.mem_append]
  rcases List.mem_cons.1 hd with rfl | h
  ·exact Or.inl hn
  ·exact Or.inr (xi5 h n hn)
theorem xl2 {w:World}{a:Addr}{v:Value}(h:w.cell? (a.add 0)=some v):∃ b o,a=⟨b,o,none⟩:=by
 have hs:=World.cell?_spot h;obtain⟨b,o,spot⟩:=a;refine⟨b,o,?_⟩;have:spot=none:=by simpa [Addr.add] using hs
 rw[this]
theorem xe1 {α:Type}{p:Nat->α->Prop}:∀ n:Nat,(∀ i,i<n->∃ y,p i y)->∃ xs:List α,xs.length=n/\∀ (i:Nat) x,xs[i]?=some x->p i x
 | 0,_=>⟨[],rfl,fun i x hx=>by simp at hx⟩
 | n+1,h=>by
  obtain⟨xs,h1,h2⟩:=xe1 n fun i hi=>h i (by omega)
  obtain⟨y,hy⟩:=h n (by omega)
  refine⟨xs++[y],by simp[h1],fun i x hx=>?_⟩
  by_cases hi:i<xs.length
  ·rw[List.getElem?_append_left hi] at hx
   exact h2 i x hx
  ·have:=xae hx
   simp at this
   obtain rfl:i=xs.length:=by omega
   simp at hx
   subst hx;rw[h1]
   exact hy
section
variable {H:Type} {enc:TypeId × Value->H} {w:World} {base:Nat} {spare:Nat->Bool} {held:Bool}
theorem xdA {α:Type}{E:Lay α}{sz bytes:Nat}(G:Good E sz){T e:TypeId}(ht:Tryz.prog.underlying T=some (.slice e))(hc:Tryz.prog.cellsOf e=sz)(hb:Tryz.prog.bytesOf e=bytes)(hp:0<bytes)
  (hel:∀ (n:Nat) (cs:List Value) (x:DataW H × List MemPlace),cs.length=sz->DataW.trod enc Tryz.prog w base spare held n e cs=some x->(∀ n∈x.1.weights Tryz.prog e,n<=140737488351232)->∃ y,E Tru w (fun k=>cs[k]?) y)
  {fuel:Nat} {v:Value} {x:DataW H × List MemPlace} (h:DataW.trod enc Tryz.prog w base spare held fuel T [v]=some x) (hw:∀ n∈x.1.weights Tryz.prog T,n<=140737488351232):∃ xs,IsRow E sz bytes Tru w v xs:=by
 have hsz:=G.pos
 rcases Go.Deep.open_slice ht h with ⟨hcs,-⟩ | ⟨a,len,cap,m,n,D,Pl,hcs,-,hl,hm,hmm,rfl,hx⟩
 ·simp only[List.cons.injEq,and_true] at hcs;subst hcs
  exact⟨[],none,0,rfl,qzC _,by unfold maxLen;omega,by simp,fun i x hx=>by simp at hx⟩
 ·simp only[List.cons.injEq,and_true] at hcs;subst hcs;have hlm:len<=m:=by rw[hmm];split<;>omega
  have hbd:len*bytes<=140737488351232:=by
   have:=hw ((((List.range len).map D).length+((List.range (m-len)).map fun j=>D (len+j)).length)*Tryz.prog.bytesOf e) (by simp[DataW.weights,ht])
   rw[hb] at this
   simp at this
   rw[show len+(m-len)=m by omega] at this
   exact qzD (Nat.mul_le_mul_right _ hlm) this
  have hsl:∀ i,i<len->∃ y,∃ b o,a=⟨b,o,none⟩/\E Tru w (fun k=>w.cell? ⟨b,o+i*sz+k,none⟩) y:=fun i hi=>by
   obtain⟨cs,h1,h2⟩:=hx i (by omega)
   rw[hc] at h1;obtain⟨_,hlen,hcell⟩:=World.cells?_some h1
   obtain⟨y,hy⟩:=hel n cs _ hlen h2 (fun q hq=>hw q (by
    simp only[DataW.weights,ht,List.mem_cons,List.mem_append]
    exact Or.inr (Or.inl (xi5 (d:=D i) (by simp;exact⟨i,hi,rfl⟩) q hq))))
   obtain⟨b,o,rfl⟩:∃ b o,a=⟨b,o,none⟩:=by
    obtain⟨cs0,k1,-⟩:=hx 0 (by omega)
    rw[hc] at k1;obtain⟨_,hlen0,hcell0⟩:=World.cells?_some k1;have h0:=hcell0 0 (by omega)
    rw[Go.Deep.add_add,Nat.zero_mul,Nat.add_zero,List.getElem?_eq_getElem (by omega)] at h0
    exact xl2 h0
   refine⟨y,b,o,rfl,G.move hy (fun _ h=>h) (.refl _ _) fun k hk u hu=>?_⟩
   have h0:=hcell k (by omega)
   rw[Go.Deep.add_add,Addr.add_lit,← Nat.add_assoc] at h0;rw[h0]
   exact hu
  obtain⟨xs,h1,h2⟩:=xe1 len hsl;refine⟨xs,some a,cap,by rw[h1],by rw[h1];exact hl,hm,by rw[h1];exact hbd,fun i x hx=>?_⟩
  obtain⟨b,o,rfl,hE⟩:=h2 i x hx
  exact⟨b,o,rfl,trivial,hE⟩
theorem xbx {fs:Array Field}{e:TypeId}(he:Tryz.prog.underlying e=some (.struct fs)){xs:List (DataW H × List MemPlace)}{j:Nat}{f:Field}{y:DataW H × List MemPlace}(hf:fs[j]?=some f)(hy:xs[j]?=some y):∀ n∈y.1.weights Tryz.prog f.type,n∈(DataW.agg (xs.map (·.1))).weights Tryz.prog e:=by
 intro n hn;simp only[DataW.weights,he];refine DataW.weights_mem_each (j:=j) (t:=f.type) (d:=y.1) ?_ ?_ n hn
 ·rw[List.getElem?_map]
  simp[hf]
 ·rw[List.getElem?_map,hy]
  rfl
theorem xiw {n:Nat}{cs:List Value}{x:DataW H × List MemPlace}(hl:cs.length=2)(h:DataW.trod enc Tryz.prog w base spare held n 27 cs=some x):∃ y,xmM Tru w (fun k=>cs[k]?) y:=by
 obtain⟨xs,k,hk,hxy,_,hxl,hf⟩:=DataW.trod_struct Tryz.underlying27 h
 match xs,hxl,cs,hl with
 | [y0,y1],_,[v0,v1],_=>
  have g0:=hf 0 _ rfl;have g1:=hf 1 _ rfl
  simp[xgN] at g0 g1
  obtain⟨a,e0,-,-⟩:=DataW.trod_int Tryz.underlying3 g0;obtain⟨b,e1,-,-⟩:=DataW.trod_int Tryz.underlying3 g1
  simp at e0 e1
  subst e0 e1
  exact⟨⟨a,b⟩,rfl,rfl⟩
theorem xjH {n:Nat}{cs:List Value}{x:DataW H × List MemPlace}(hl:cs.length=5)(h:DataW.trod enc Tryz.prog w base spare held n 76 cs=some x)(hw:∀ n∈x.1.weights Tryz.prog 76,n<=140737488351232):∃ y,xe2 Tru w (fun k=>cs[k]?) y:=by
 obtain⟨xs,k,hk,hxy,_,hxl,hf⟩:=DataW.trod_struct Tryz.underlying76 h
 match xs,hxl,cs,hl with
 | [y0,y1,y2,y3,y4],_,[v0,v1,v2,v3,v4],_=>
  have g0:=hf 0 _ rfl;have g1:=hf 1 _ rfl;have g2:=hf 2 _ rfl;have g3:=hf 3 _ rfl;have g4:=hf 4 _ rfl
  simp[xgN,xiE] at g0 g1 g2 g3 g4
  obtain⟨a,e0,-,-⟩:=DataW.trod_int Tryz.underlying3 g0;obtain⟨b,e1,-,-⟩:=DataW.trod_int Tryz.underlying3 g1;obtain⟨c,e2,-,-⟩:=DataW.trod_int Tryz.underlying3 g2;obtain⟨d,e3,-,-⟩:=DataW.trod_int Tryz.underlying3 g3;obtain⟨s,e4,e5,-⟩:=DataW.trod_string Tryz.underlying9 g4
  simp at e0 e1 e2 e3 e4
  subst e0 e1 e2 e3 e4
  have hs:s.size<=140737488351232:=by
   rw[hxy] at hw;have:=hw s.data.toList.length (xbx (j:=4) (xs:=[y0,y1,y2,y3,y4]) Tryz.underlying76 rfl rfl _ (by rw[e5];simp[DataW.weights]))
   simpa using this
  exact⟨⟨a,b,c,d,s⟩,rfl,rfl,rfl,rfl,rfl,hs⟩
theorem xkm {fuel:Nat}{v:Value}{x:DataW H × List MemPlace}(h:DataW.trod enc Tryz.prog w base spare held fuel 57 [v]=some x)(hw:∀ n∈x.1.weights Tryz.prog 57,n<=140737488351232):∃ xs,xa5 Tru w v xs:=
 xdA xbl Tryz.underlying57 xnx xnV (by omega) (fun n cs x hl h hw=>xjH hl h hw) h hw
theorem xg3 {fuel:Nat}{v:Value}{x:DataW H × List MemPlace}(h:DataW.trod enc Tryz.prog w base spare held fuel 28 [v]=some x)(hw:∀ n∈x.1.weights Tryz.prog 28,n<=140737488351232):∃ xs,xaB Tru w v xs:=
 xdA xaK Tryz.underlying28 xld xm4 (by omega) (fun n cs x hl h hw=>xiw hl h) h hw
theorem xkh {n:Nat}{cs:List Value}{x:DataW H × List MemPlace}(hl:cs.length=5)(h:DataW.trod enc Tryz.prog w base spare held n 59 cs=some x)(hw:∀ n∈x.1.weights Tryz.prog 59,n<=140737488351232):∃ y,xeE Tru w (fun k=>cs[k]?) y:=by
 obtain⟨xs,k,hk,hxy,_,hxl,hf⟩:=DataW.trod_struct Tryz.underlying59 h
 match xs,hxl,cs,hl with
 | [y0,y1,y2,y3,y4],_,[v0,v1,v2,v3,v4],_=>
  have g0:=hf 0 _ rfl;have g1:=hf 1 _ rfl;have g2:=hf 2 _ rfl;have g3:=hf 3 _ rfl;have g4:=hf 4 _ rfl
  simp[xgN,xiE,xng] at g0 g1 g2 g3 g4
  rw[hxy] at hw;obtain⟨s,e0,e5,-⟩:=DataW.trod_string Tryz.underlying9 g0;obtain⟨b,e1,-,-⟩:=DataW.trod_int Tryz.underlying3 g1;obtain⟨c,e2,-,-⟩:=DataW.trod_int Tryz.underlying3 g2;obtain⟨d,e3,-,-⟩:=DataW.trod_int Tryz.underlying3 g3;obtain⟨l,hc⟩:=xkm g4 (fun q hq=>hw q (xbx (j:=4) (xs:=[y0,y1,y2,y3,y4]) Tryz.underlying59 rfl rfl q hq))
  simp at e0 e1 e2 e3
  subst e0 e1 e2 e3
  have hs:s.size<=140737488351232:=by
   have:=hw s.data.toList.length (xbx (j:=0) (xs:=[y0,y1,y2,y3,y4]) Tryz.underlying59 rfl rfl _ (by rw[e5];simp[DataW.weights]))
   simpa using this
  exact⟨⟨s,b,c,d,l⟩,rfl,rfl,rfl,rfl,hs,_,rfl,hc⟩
theorem xjE {fuel:Nat}{v:Value}{x:DataW H × List MemPlace}(h:DataW.trod enc Tryz.prog w base spare held fuel 52 [v]=some x)(hw:∀ n∈x.1.weights Tryz.prog 52,n<=140737488351232):∃ xs,xbd Tru w v xs:=
 xdA xbi Tryz.underlying52 xnL xnS (by omega) (fun n cs x hl h hw=>xkh hl h hw) h hw
theorem xlD {n:Nat}{cs:List Value}{x:DataW H × List MemPlace}(hl:cs.length=2)(h:DataW.trod enc Tryz.prog w base spare held n 64 cs=some x)(hw:∀ n∈x.1.weights Tryz.prog 64,n<=140737488351232):∃ y,xlt Tru w (fun k=>cs[k]?) y:=by
 obtain⟨xs,k,hk,hxy,_,hxl,hf⟩:=DataW.trod_struct Tryz.underlying64 h
 match xs,hxl,cs,hl with
 | [y0,y1],_,[v0,v1],_=>
  have g0:=hf 0 _ rfl;have g1:=hf 1 _ rfl
  simp[xgN,xls] at g0 g1
  rw[hxy] at hw;obtain⟨a,e0,-,-⟩:=DataW.trod_int Tryz.underlying3 g0;obtain⟨l,hc⟩:=xg3 g1 (fun q hq=>hw q (xbx (j:=1) (xs:=[y0,y1]) Tryz.underlying64 rfl rfl q hq))
  simp at e0
  subst e0
  exact⟨⟨a,l⟩,rfl,_,rfl,hc⟩
theorem xkw {fuel:Nat}{v:Value}{x:DataW H × List MemPlace}(h:DataW.trod enc Tryz.prog w base spare held fuel 23 [v]=some x)(hw:∀ n∈x.1.weights Tryz.prog 23,n<=140737488351232):∃ xs,xaC Tru w v xs:=
 xdA xaD Tryz.underlying23 xnz xn1 (by omega) (fun n cs x hl h hw=>xlD hl h hw) h hw
theorem xjF {n:Nat}{cs:List Value}{x:DataW H × List MemPlace}(hl:cs.length=4)(h:DataW.trod enc Tryz.prog w base spare held n 54 cs=some x)(hw:∀ n∈x.1.weights Tryz.prog 54,n<=140737488351232):∃ y,xd8 Tru w (fun k=>cs[k]?) y:=by
 obtain⟨xs,k,hk,hxy,_,hxl,hf⟩:=DataW.trod_struct Tryz.underlying54 h
 match xs,hxl,cs,hl with
 | [y0,y1,y2,y3],_,[v0,v1,v2,v3],_=>
  have g0:=hf 0 _ rfl;have g1:=hf 1 _ rfl;have g2:=hf 2 _ rfl;have g3:=hf 3 _ rfl
  simp[xgN,xiE,xol] at g0 g1 g2 g3
  rw[hxy] at hw;obtain⟨s,e0,e5,-⟩:=DataW.trod_string Tryz.underlying9 g0;obtain⟨b,e1,-,-⟩:=DataW.trod_int Tryz.underlying3 g1;obtain⟨c,e2,-,-⟩:=DataW.trod_int Tryz.underlying3 g2;obtain⟨l,hc⟩:=xjE g3 (fun q hq=>hw q (xbx (j:=3) (xs:=[y0,y1,y2,y3]) Tryz.underlying54 rfl rfl q hq))
  simp at e0 e1 e2
  subst e0 e1 e2
  have hs:s.size<=140737488351232:=by
   have:=hw s.data.toList.length (xbx (j:=0) (xs:=[y0,y1,y2,y3]) Tryz.underlying54 rfl rfl _ (by rw[e5];simp[DataW.weights]))
   simpa using this
  exact⟨⟨s,b,c,l⟩,rfl,rfl,rfl,hs,_,rfl,hc⟩
theorem xgW {fuel:Nat}{v:Value}{x:DataW H × List MemPlace}(h:DataW.trod enc Tryz.prog w base spare held fuel 22 [v]=some x)(hw:∀ n∈x.1.weights Tryz.prog 22,n<=140737488351232):∃ xs,xai Tru w v xs:=
 xdA xaz Tryz.underlying22 xno xn8 (by omega) (fun n cs x hl h hw=>xjF hl h hw) h hw
theorem xjq {r:Reach}{b0:Nat}{v:Value}{d:DataW H}{p:List MemPlace}(hv:Value.okWide Tryz.prog w r b0 25 v)(h:DataW.Trod enc Tryz.prog w base spare held 25 v d p)(hw:∀ n∈d.weights Tryz.prog 25,n<=140737488351232):∃ (X:QW) (cv hv:Value),v=WV cv hv X.ez/\xai Tru w cv X.cz/\xaC Tru w hv X.heap:=by
 obtain⟨v0,v1,v2,y0,y1,y2,n,rfl,rfl,rfl,h0,h1,h2⟩:=Joins.open_agg3 Tryz.underlying25 (by kernel_rfl) xnr hv h
 obtain⟨cs,hc⟩:=xgW h0 (fun q hq=>hw q (xbx (j:=0) (xs:=[y0,y1,y2]) Tryz.underlying25 rfl rfl q hq))
 obtain⟨hs,hh⟩:=xkw h1 (fun q hq=>hw q (xbx (j:=1) (xs:=[y0,y1,y2]) Tryz.underlying25 rfl rfl q hq))
 obtain⟨e,e2,-,-⟩:=DataW.trod_int Tryz.underlying3 h2
 simp at e2
 subst e2
 exact⟨⟨cs,hs,e⟩,v0,v1,rfl,hc,hh⟩
end
def xfw:List QM:=[⟨⟨#[42]⟩,1,0,3,[]⟩,⟨⟨#[43]⟩,1,0,1,[]⟩,⟨⟨#[45]⟩,1,0,2,[]⟩,⟨⟨#[60]⟩,1,0,4,[]⟩,⟨⟨#[61]⟩,1,0,5,[]⟩]
def xgB:List QC:=[⟨⟨#[79,98,106,101,99,116]⟩,-1,0,[]⟩,⟨⟨#[78,105,108]⟩,0,0,[]⟩,⟨⟨#[66,111,111,108]⟩,0,0,[]⟩,⟨⟨#[73,110,116]⟩,0,0,xfw⟩]
def xoU:QW:=⟨xgB,[],0⟩
theorem xbG {α:Type}{E:Lay α}{sz bytes:Nat}{P:Nat->Prop}{w:World}:IsRow E sz bytes P w (.slice none 0 0) []:=
 ⟨none,0,rfl,qzC _,by unfold maxLen;omega,by simp,fun i x hx=>by simp at hx⟩
theorem xbU {P:Nat->Prop}{w:World}(x:QM)(v:Value)(h:x.name.size<=140737488351232)(hv:xa5 P w v x.code):Cells xeE 5 P w [.string x.name,.int .i64 x.args,.int .i64 x.temps,.int .i64 x.prim,v] [x]:=
 Cells.one xbi rfl ⟨rfl,rfl,rfl,rfl,h,v,rfl,hv⟩
theorem xdu {P:Nat->Prop}{w:World}(x:QC)(v:Value)(h:x.name.size<=140737488351232)(hv:xbd P w v x.mz):Cells xd8 4 P w [.string x.name,.int .i64 x.super,.int .i64 x.slots,v] [x]:=
 Cells.one xaz rfl ⟨rfl,rfl,rfl,h,v,rfl,hv⟩
def xeA:List Value:=[.string ⟨#[42]⟩,.int .i64 1,.int .i64 0,.int .i64 3,.slice none 0 0,.string ⟨#[43]⟩,.int .i64 1,.int .i64 0,.int .i64 1,.slice none 0 0,.string ⟨#[45]⟩,.int .i64 1,.int .i64 0,.int .i64 2,.slice none 0 0,.string ⟨#[60]⟩,.int .i64 1,.int .i64 0,.int .i64 4,.slice none 0 0,.string ⟨#[61]⟩,.int .i64 1,.int .i64 0,.int .i64 5,.slice none 0 0]
theorem xjN {P:Nat->Prop}{w:World}:Cells xeE 5 P w xeA xfw:=
 ((((xbU ⟨⟨#[42]⟩,1,0,3,[]⟩ _ (by decide) xbG).append xbi (xbU ⟨⟨#[43]⟩,1,0,1,[]⟩ _ (by decide) xbG)).append xbi (xbU ⟨⟨#[45]⟩,1,0,2,[]⟩ _ (by decide) xbG)).append xbi (xbU ⟨⟨#[60]⟩,1,0,4,[]⟩ _ (by decide) xbG)).append xbi (xbU ⟨⟨#[61]⟩,1,0,5,[]⟩ _ (by decide) xbG)
def xlg (v:Value):List Value:=[.string ⟨#[79,98,106,101,99,116]⟩,.int .i64 (-1),.int .i64 0,.slice none 0 0,.string ⟨#[78,105,108]⟩,.int .i64 0,.int .i64 0,.slice none 0 0,.string ⟨#[66,111,111,108]⟩,.int .i64 0,.int .i64 0,.slice none 0 0,.string ⟨#[73,110,116]⟩,.int .i64 0,.int .i64 0,v]
theorem xjD {P:Nat->Prop}{w:World}{v:Value}(h:xbd P w v xfw):Cells xd8 4 P w (xlg v) xgB:=
 (((xdu ⟨⟨#[79,98,106,101,99,116]⟩,-1,0,[]⟩ _ (by decide) xbG).append xaz (xdu ⟨⟨#[78,105,108]⟩,0,0,[]⟩ _ (by decide) xbG)).append xaz (xdu ⟨⟨#[66,111,111,108]⟩,0,0,[]⟩ _ (by decide) xbG)).append xaz (xdu ⟨⟨#[73,110,116]⟩,0,0,xfw⟩ v (by decide) h)
theorem xa9 {n b:Nat}{w W:World}(h:Below n w W)(hb:n<=b)(x y z:Value):Below n w (((W.setCell ⟨b,0,none⟩ x).setCell ⟨b,1,none⟩ y).setCell ⟨b,2,none⟩ z):=((h.setCell hb _).setCell hb _).setCell hb _
def ltN (a b:ByteArray):Bool:=Op.bytesLess a.toList b.toList
structure NextR where
 need:Int
 more:Int
 next:List Int
def xaN (x:QI)(at':Int):NextR:=
 if x.op=9\/x.op=11\/x.op=12 then ⟨1,-1,[at'+1]⟩
 else if x.op=10 then ⟨1,1,[at'+1]⟩
 else if x.op=14 then ⟨x.a+1,-x.a,[at'+1]⟩
 else if x.op=15 then ⟨0,0,[x.a]⟩
 else if x.op=16 then ⟨1,-1,[at'+1,x.a]⟩
 else if x.op=17 then ⟨1,-1,[]⟩
 else ⟨0,1,[at'+1]⟩
def xc5 (code:List QI):Prop:=∀ x∈code,x.op=14->0<=x.a/\x.a<=4
theorem xdI {x:QI}(h:x.op=14->0<=x.a/\x.a<=4)(p:Int):0<=(xaN x p).need/\(xaN x p).need<=5/\-4<=(xaN x p).more/\(xaN x p).more<=1/\0<=(xaN x p).need+(xaN x p).more/\(xaN x p).next.length<=2:=by
 unfold xaN
 by_cases h14:x.op=14
 ·obtain⟨h1,h2⟩:=h h14
  simp[h14]
  omega
 ·(repeat' split)<;>simp_all
def xc3 (code:List QI)(p:Int):Option QI:=if 0<=p then code[p.toNat]? else none
theorem xdp {code:List QI}{p:Int}{x:QI}(h:xc3 code p=some x):∃ k:Nat,p=(k:Int)/\code[k]?=some x:=by
 unfold xc3 at h
 split at h
 ·exact⟨p.toNat,by omega,h⟩
 ·cases h
theorem xgS {code:List QI}{p:Int}:xc3 code p=none ↔ p<0\/(code.length:Int)<=p:=by
 unfold xc3
 split
 ·rw[List.getElem?_eq_none_iff];omega
 ·simp;omega
def xcM (code:List QI)(h:List Int)(p:Int × Int):(Int × Int) ⊕ (List Int × List (Int × Int)):=
 match xc3 code p.1 with
 | none=>.inl (9,(code.length:Int))
 | some x=>
  if 0<=h.getD p.1.toNat 0 then if h.getD p.1.toNat 0≠p.2 then .inl (8,p.1) else .inr (h,[])
  else if p.2<(xaN x p.1).need\/x.op=17/\p.2≠1 then .inl (8,p.1)
  else if 12<p.2+(xaN x p.1).more then .inl (4,p.1)
  else .inr (h.set p.1.toNat p.2,(xaN x p.1).next.map fun t=>(t,p.2+(xaN x p.1).more))
def xhD (code:List QI):Nat->List Int->List (Int × Int)->List Int × (Int × Int)
 | 0,h,_=>(h,(0,0))
 | _+1,h,[]=>(h,(0,0))
 | g+1,h,p :: q=>match xcM code h p with
  | .inl f=>([],f)
  | .inr (h',new)=>xhD code g h' (q++new)
def xec (h:List Int)(q:List (Int × Int)):Nat:=q.length+2*h.countP (fun v=>decide (v<0))
def xcS (n:Nat):List Int:=List.replicate n (-1)
def xaH (code:List QI):List Int × (Int × Int):=xhD code (2*code.length+1) (xcS code.length) [(0,0)]
theorem xjl {h:List Int}{k:Nat}{v:Int}(hk:h.getD k 0<0)(hv:0<=v)(hl:k<h.length):(h.set k v).countP (fun v=>decide (v<0))+1=h.countP (fun v=>decide (v<0)):=by
 induction h generalizing k with
 | nil=>simp at hl
 | cons a r ih=>
  cases k with
  | zero=>
   have:a<0:=by simpa using hk
   have hv':¬ v<0:=by omega
   simp[List.set,this,hv']
  | succ k=>
   simp only[List.set,List.countP_cons];have:=ih (k:=k) (by simpa using hk) (by simpa using hl)
   omega
structure HInv (code:List QI)(h:List Int)(q:List (Int × Int)):Prop where
 len:h.length=code.length
 wait:∀ p∈q,0<=p.2/\p.2<=12
theorem HInv.start (code:List QI):HInv code (xcS code.length) [(0,0)]:=⟨by simp[xcS],fun p hp=>by simp at hp;subst hp;simp⟩
theorem xfe (code:List QI):xec (xcS code.length) [(0,0)]=2*code.length+1:=by
 simp[xec,xcS,List.countP_replicate];omega
theorem HInv.step {code:List QI}{h h':List Int}{p:Int × Int}{q new:List (Int × Int)}(hi:HInv code h (p :: q))(hs:xc5 code)(he:xcM code h p=.inr (h',new)):HInv code h' (q++new)/\xec h' (q++new)+1<=xec h (p :: q):=by
 have hw:=hi.wait p (by simp)
 have hq:∀ r∈q,0<=r.2/\r.2<=12:=fun r hr=>hi.wait r (by simp[hr])
 unfold xcM at he
 cases hx:xc3 code p.1 with
 | none=>rw[hx] at he;cases he
 | some x=>
  rw[hx] at he;simp only at he;obtain⟨k,hk,hxk⟩:=xdp hx;have hr:=xdI (x:=x) (hs x (List.mem_of_getElem? hxk)) p.1
  split at he
  ·split at he
   ·cases he
   ·simp only[Sum.inr.injEq,Prod.mk.injEq] at he;obtain⟨rfl,rfl⟩:=he
    exact⟨⟨hi.len,by simpa using hq⟩,by simp[xec];omega⟩
  ·rename_i hneg
   split at he
   ·cases he
   ·rename_i hfit
    split at he
    ·cases he
    ·rename_i hmuch;simp only[Sum.inr.injEq,Prod.mk.injEq] at he;obtain⟨rfl,rfl⟩:=he
     have hl:p.1.toNat<h.length:=by
      have:=xae hxk;rw[hi.len];omega
     have hc:=xjl (h:=h) (k:=p.1.toNat) (v:=p.2) (by omega) hw.1 hl
     refine⟨⟨by rw[List.length_set];exact hi.len,fun r hr'=>?_⟩,?_⟩
     ·rcases List.mem_append.1 hr' with h1 | h1
      ·exact hq r h1
      ·obtain⟨t,-,rfl⟩:=List.mem_map.1 h1;have:¬ (p.2<(xaN x p.1).need):=fun h=>hfit (Or.inl h)
       simp only
       omega
     ·simp only[xec,List.length_append,List.length_map,List.length_cons]
      omega
end Go.Proofs.YtapbeiccodnniaaGreat
