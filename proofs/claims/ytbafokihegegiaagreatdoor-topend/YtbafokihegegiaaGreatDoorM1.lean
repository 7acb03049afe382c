/- A part. -/
import Derived.Test.YtbafokihegegiaaGreatDoorM0
import Derived.Deep.RegionLawGrows
import Derived.Deep.AppendLies
import Derived.Deep.SlicePairs
import Derived.SizedLaws
import Derived.ChangeOld
import Derived.Lib.SmallJoins
import Derived.ArgAppend
namespace Go.Proofs.YtbafokihegegiaaGreatDoor
open Go.ChangeShapes Go.WideShapes Go.ChangeAt Go.RowKit
set_option linter.unusedSimpArgs false
set_option linter.unusedVariables false
set_option maxHeartbeats 8000000
def xa8 (xs:List QC)(c:Int):Option QC:=if 0<=c then xs[c.toNat]? else none
theorem xcX {xs:List QC}{k:Nat}:xa8 xs (k:Int)=xs[k]?:=by simp[xa8]
theorem xa5 {xs:List QC}{c:Int}{x:QC}(h:xa8 xs c=some x):∃ k:Nat,c=(k:Int)/\xs[k]?=some x:=by
 unfold xa8 at h
 split at h
 ·exact⟨c.toNat,by omega,h⟩
 ·cases h
theorem xd3 {xs:List QC}{c:Int}:xc3 xs.length c=(xa8 xs c).isSome:=by
 unfold xc3 xa8
 by_cases h:0<=c
 ·rw[Bool.eq_iff_iff];simp[h]
 ·simp[h]
def upE {σ:Type}(vis:σ->Nat->QC->σ × Bool)(xs:List QC):Nat->Int->σ->σ
 | 0,_,s=>s
 | n+1,c,s=>match xa8 xs c with
  | none=>s
  | some x=>if (vis s c.toNat x).2 then upE vis xs n x.super (vis s c.toNat x).1 else (vis s c.toNat x).1
theorem xjI {σ:Type}{P M:Nat->Prop}(vis:σ->Nat->QC->σ × Bool)(R:Nat->σ->World->Prop)(p1 p2:Value)(xs:List QC)(c:Int)(s0:σ)(cv hv:Value)(ep:Int)(w:World)(hh:xag P w cv xs)(hhv:∃ a n c,hv=.slice a n c)(hR:R 0 s0 w)(hM:∀ b,M b->b<w.heap.size)
  (hX:∀ j s w',R j s w'->xag P w' cv xs) (hL:∀ j s w' w'',R j s w'->Below w'.heap.size w' w''->R j s w'')
  (hF:∀ (j:Nat) s (k:Nat) x w',j<xs.length+1->R j s w'->xs[k]?=some x->Calls Tryz.prog 107 #[.int .i64 k,p1,p2] w' fun e w''=>e=.returned (.bool (vis s k x).2)/\R (j+1) (vis s k x).1 w''/\Keeps (fun b=>¬ M b) w' w''/\w'.heap.size<=w''.heap.size) :
  Calls Tryz.prog 106 #[WV cv hv ep,.int .i64 c,.func (.func 107) #[] #[p1,p2]] w fun e w'=>e=.returned (.tuple #[])/\∃ j,R j (upE vis xs (xs.length+1) c s0) w':=by
 obtain⟨ad,cap,rfl,hl,hcap,hby,hrow⟩:=id hh;obtain⟨ah,nh,ch,rfl⟩:∃ a n c,hv=.slice a n c:=hhv;unfold maxLen at hcap;go_enter Tryz.func106,Tryz.ntmps106;go_wp2;have hb0:(w.alloc (Obj.cells #[.slice ad xs.length cap,.slice ah nh ch,.int .i64 ep] 26)).cell? ⟨w.heap.size,0,none⟩=some (.slice ad xs.length cap):=by simp
 have hb1:(w.alloc (Obj.cells #[.slice ad xs.length cap,.slice ah nh ch,.int .i64 ep] 26)).cell? ⟨w.heap.size,1,none⟩=some (.slice ah nh ch):=by simp
 have hb2:(w.alloc (Obj.cells #[.slice ad xs.length cap,.slice ah nh ch,.int .i64 ep] 26)).cell? ⟨w.heap.size,2,none⟩=some (.int .i64 ep):=by simp
 have hMw:¬ M w.heap.size:=fun h=>by have:=hM _ h;omega
 have hRa:=hL 0 s0 w _ hR (xai w (Obj.cells #[.slice ad xs.length cap,.slice ah nh ch,.int .i64 ep] 26));clear hR hrow hh
 go_loopg [1,10] (xs.length+1) (fun g c' i wr=>∃ (j:Nat) (cc:Int) (s:σ),j+g=xs.length+1/\i=.int .i64 j/\c'=.int .i64 cc/\R j s wr/\upE vis xs (xs.length+1) c s0=upE vis xs g cc s/\wr.cell? ⟨w.heap.size,0,none⟩=some (.slice ad xs.length cap)/\wr.cell? ⟨w.heap.size,1,none⟩=some (.slice ah nh ch)/\wr.cell? ⟨w.heap.size,2,none⟩=some (.int .i64 ep))
 case atStart=>exact⟨0,c,s0,by omega,rfl,rfl,hRa,rfl,hb0,hb1,hb2⟩
 case round=>
  obtain⟨j,cc,s,hj,rfl,rfl,hRs,hE,c0,c1,c2⟩:=hrel;have HE:Hid (upE vis xs (xs.length+1) c s0=upE vis xs gk cc s):=hE;clear hE hb0 hb1 hb2 hRa
  by_cases hlt:j<xs.length+1
  ·obtain⟨g',rfl⟩:∃ g',gk=g'+1:=⟨gk-1,by omega⟩
   have hj1:(j:Int)<(xs.length:Int)+1:=by omega
   cases hx:xa8 xs cc with
   | none=>
    have hh:xc3 xs.length cc=false:=by rw[xd3,hx];rfl
    have HX:Hid (xa8 xs cc=none):=hx;clear hx;go_wp2_with fail;refine (xdD _ _ _ _ _ _ _ _ _).mono ?_;rintro e w1 ⟨rfl,hb⟩;rw[hh];go_wp2;refine bodyPost_ret (v:=.tuple #[]) (by simp[results,Tryz.results106,go_sem]) rfl ⟨rfl,j,?_⟩
    rw[HE.out];simp only[upE,HX.out]
    exact hL _ _ _ _ hRs hb
   | some x=>
    have hh:xc3 xs.length cc=true:=by rw[xd3,hx];rfl
    obtain⟨k,rfl,hxk⟩:=xa5 hx;have HX:Hid (xs[k]?=some x):=hxk;have HC:Hid (xa8 xs (k:Int)=some x):=hx;have hk:=xad hxk;clear hx hxk;have hk0:(0:Int)<=(k:Int):=by omega
    have hk1:(k:Int)<(xs.length:Int):=by omega
    go_wp2_with fail;refine (xdD _ _ _ _ _ _ _ _ _).mono ?_;rintro e w1 ⟨rfl,hb⟩;rw[hh];replace hRs:=hL _ _ _ _ hRs hb;replace c0:=qzA hb c0;replace c1:=qzA hb c1;replace c2:=qzA hb c2;clear hb hh;go_wp2_with fail;refine (hF j s k x w1 hlt hRs HX.out).mono ?_;rintro e w2 ⟨rfl,hR2,hK2,-⟩;replace c0:=hK2 _ _ _ hMw c0;replace c1:=hK2 _ _ _ hMw c1;replace c2:=hK2 _ _ _ hMw c2
    cases hv2:(vis s k x).2
    ·go_wp2;refine bodyPost_ret (v:=.tuple #[]) (by simp[results,Tryz.results106,go_sem]) rfl ⟨rfl,j+1,?_⟩
     rw[HE.out];simp only[upE,HC.out,Int.toNat_natCast,hv2]
     exact hR2
    ·obtain⟨ad',cap',e',-,-,-,hrow⟩:=hX _ _ _ hR2;simp only[Value.slice.injEq] at e';obtain⟨rfl,-,rfl⟩:=e';obtain⟨b,o,rfl,-,-,hv1,-⟩:=hrow k x HX.out;clear hrow;go_wp2
     go_roundg g'
     case measure=>omega
     case rel=>
      refine⟨j+1,x.super,(vis s k x).1,by omega,by go_num,rfl,hR2,?_,c0,c1,c2⟩
      rw[HE.out];simp only[upE,HC.out,Int.toNat_natCast,hv2,if_true]
  ·obtain rfl:gk=0:=by omega
   go_wp2
   go_end0
   refine⟨rfl,j,?_⟩;rw[HE.out]
   exact hRs
theorem xpI {σ:Type}{P M:Nat->Prop}(vis:σ->Nat->QC->σ × Bool)(R:Nat->σ->World->Prop)(p1 p2 p3 p4:Value)(xs:List QC)(c:Int)(s0:σ)(cv hv:Value)(ep:Int)(w:World)(hh:xag P w cv xs)(hhv:∃ a n c,hv=.slice a n c)(hR:R 0 s0 w)(hM:∀ b,M b->b<w.heap.size)
  (hX:∀ j s w',R j s w'->xag P w' cv xs) (hL:∀ j s w' w'',R j s w'->Below w'.heap.size w' w''->R j s w'')
  (hF:∀ (j:Nat) s (k:Nat) x w',j<xs.length+1->R j s w'->xs[k]?=some x->Calls Tryz.prog 192 #[.int .i64 k,p1,p2,p3,p4] w' fun e w''=>e=.returned (.bool (vis s k x).2)/\R (j+1) (vis s k x).1 w''/\Keeps (fun b=>¬ M b) w' w''/\w'.heap.size<=w''.heap.size) :
  Calls Tryz.prog 106 #[WV cv hv ep,.int .i64 c,.func (.func 192) #[] #[p1,p2,p3,p4]] w fun e w'=>e=.returned (.tuple #[])/\∃ j,R j (upE vis xs (xs.length+1) c s0) w':=by
 obtain⟨ad,cap,rfl,hl,hcap,hby,hrow⟩:=id hh;obtain⟨ah,nh,ch,rfl⟩:∃ a n c,hv=.slice a n c:=hhv;unfold maxLen at hcap;go_enter Tryz.func106,Tryz.ntmps106;go_wp2;have hb0:(w.alloc (Obj.cells #[.slice ad xs.length cap,.slice ah nh ch,.int .i64 ep] 26)).cell? ⟨w.heap.size,0,none⟩=some (.slice ad xs.length cap):=by simp
 have hb1:(w.alloc (Obj.cells #[.slice ad xs.length cap,.slice ah nh ch,.int .i64 ep] 26)).cell? ⟨w.heap.size,1,none⟩=some (.slice ah nh ch):=by simp
 have hb2:(w.alloc (Obj.cells #[.slice ad xs.length cap,.slice ah nh ch,.int .i64 ep] 26)).cell? ⟨w.heap.size,2,none⟩=some (.int .i64 ep):=by simp
 have hMw:¬ M w.heap.size:=fun h=>by have:=hM _ h;omega
 have hRa:=hL 0 s0 w _ hR (xai w (Obj.cells #[.slice ad xs.length cap,.slice ah nh ch,.int .i64 ep] 26));clear hR hrow hh
 go_loopg [1,10] (xs.length+1) (fun g c' i wr=>∃ (j:Nat) (cc:Int) (s:σ),j+g=xs.length+1/\i=.int .i64 j/\c'=.int .i64 cc/\R j s wr/\upE vis xs (xs.length+1) c s0=upE vis xs g cc s/\wr.cell? ⟨w.heap.size,0,none⟩=some (.slice ad xs.length cap)/\wr.cell? ⟨w.heap.size,1,none⟩=some (.slice ah nh ch)/\wr.cell? ⟨w.heap.size,2,none⟩=some (.int .i64 ep))
 case atStart=>exact⟨0,c,s0,by omega,rfl,rfl,hRa,rfl,hb0,hb1,hb2⟩
 case round=>
  obtain⟨j,cc,s,hj,rfl,rfl,hRs,hE,c0,c1,c2⟩:=hrel;have HE:Hid (upE vis xs (xs.length+1) c s0=upE vis xs gk cc s):=hE;clear hE hb0 hb1 hb2 hRa
  by_cases hlt:j<xs.length+1
  ·obtain⟨g',rfl⟩:∃ g',gk=g'+1:=⟨gk-1,by omega⟩
   have hj1:(j:Int)<(xs.length:Int)+1:=by omega
   cases hx:xa8 xs cc with
   | none=>
    have hh:xc3 xs.length cc=false:=by rw[xd3,hx];rfl
    have HX:Hid (xa8 xs cc=none):=hx;clear hx;go_wp2_with fail;refine (xdD _ _ _ _ _ _ _ _ _).mono ?_;rintro e w1 ⟨rfl,hb⟩;rw[hh];go_wp2;refine bodyPost_ret (v:=.tuple #[]) (by simp[results,Tryz.results106,go_sem]) rfl ⟨rfl,j,?_⟩
    rw[HE.out];simp only[upE,HX.out]
    exact hL _ _ _ _ hRs hb
   | some x=>
    have hh:xc3 xs.length cc=true:=by rw[xd3,hx];rfl
    obtain⟨k,rfl,hxk⟩:=xa5 hx;have HX:Hid (xs[k]?=some x):=hxk;have HC:Hid (xa8 xs (k:Int)=some x):=hx;have hk:=xad hxk;clear hx hxk;have hk0:(0:Int)<=(k:Int):=by omega
    have hk1:(k:Int)<(xs.length:Int):=by omega
    go_wp2_with fail;refine (xdD _ _ _ _ _ _ _ _ _).mono ?_;rintro e w1 ⟨rfl,hb⟩;rw[hh];replace hRs:=hL _ _ _ _ hRs hb;replace c0:=qzA hb c0;replace c1:=qzA hb c1;replace c2:=qzA hb c2;clear hb hh;go_wp2_with fail;refine (hF j s k x w1 hlt hRs HX.out).mono ?_;rintro e w2 ⟨rfl,hR2,hK2,-⟩;replace c0:=hK2 _ _ _ hMw c0;replace c1:=hK2 _ _ _ hMw c1;replace c2:=hK2 _ _ _ hMw c2
    cases hv2:(vis s k x).2
    ·go_wp2;refine bodyPost_ret (v:=.tuple #[]) (by simp[results,Tryz.results106,go_sem]) rfl ⟨rfl,j+1,?_⟩
     rw[HE.out];simp only[upE,HC.out,Int.toNat_natCast,hv2]
     exact hR2
    ·obtain⟨ad',cap',e',-,-,-,hrow⟩:=hX _ _ _ hR2;simp only[Value.slice.injEq] at e';obtain⟨rfl,-,rfl⟩:=e';obtain⟨b,o,rfl,-,-,hv1,-⟩:=hrow k x HX.out;clear hrow;go_wp2
     go_roundg g'
     case measure=>omega
     case rel=>
      refine⟨j+1,x.super,(vis s k x).1,by omega,by go_num,rfl,hR2,?_,c0,c1,c2⟩
      rw[HE.out];simp only[upE,HC.out,Int.toNat_natCast,hv2,if_true]
  ·obtain rfl:gk=0:=by omega
   go_wp2
   go_end0
   refine⟨rfl,j,?_⟩;rw[HE.out]
   exact hRs
theorem xiq (w:World)(b o:Nat)(v:Value):Below b w (w.setCell ⟨b,o,none⟩ v):=(Below.refl b w).setCell (qzC b) _
def xdr (s:Int)(_:Nat)(x:QC):Int × Bool:=(s+x.slots,true)
def xbw (xs:List QC)(c:Int):Int:=upE xdr xs (xs.length+1) c 0
def xcC (xs:List QC):Prop:=∀ (i:Nat) x,xs[i]?=some x->0<=x.slots/\x.slots<=6
theorem xkq {P:Nat->Prop}(xs:List QC)(cv:Value)(s:Int)(k:Nat)(x:QC)(bs bw:Nat)(w:World)(hne:bs≠bw)(hs:w.heap[bs]?=some (.cells #[.int .i64 s] 3 (0,0)))(hw:w.cell? ⟨bw,0,none⟩=some cv)(hh:xag P w cv xs)(hx:xs[k]?=some x)(hr:IntKind.i64.wrap (s+x.slots)=s+x.slots) :
  Calls Tryz.prog 107 #[.int .i64 k,.pointer (some ⟨bs,0,none⟩),.pointer (some ⟨bw,0,none⟩)] w fun e w''=>e=.returned (.bool true)/\w''.heap[bs]?=some (.cells #[.int .i64 (s+x.slots)] 3 (0,0))/\Keeps (fun b=>b≠bs) w w''/\Below bs w w'':=by
 obtain⟨ad,cap,rfl,hl,hcap,hby,hrow⟩:=id hh;have hk:=xad hx;obtain⟨b,o,rfl,-,hv0,hv1,hv2,-⟩:=hrow k x hx;have hk0:(0:Int)<=(k:Int):=by omega
 have hk1:(k:Int)<(xs.length:Int):=by omega
 have c1:=cell_of_one hs;have f1:=free_of_one hs;clear hrow hh hx;go_enter Tryz.func107,Tryz.ntmps107;go_wp2
 go_region
 all_goals go_wp2
 all_goals go_ret
 all_goals
  refine⟨rfl,?_,?_,?_⟩
  ·exact one_setCell (by first | exact hs | simpa using hs)
  ·exact Keeps.of_setCell (fun h=>h rfl) _
  ·first | exact xiq _ _ _ _ | exact (xiq _ _ _ _).drew
theorem xfb {xs:List QC}(ho:xcC xs):∀ (n:Nat) (c s:Int),0<=s->s<=upE xdr xs n c s/\upE xdr xs n c s<=s+6*n
 | 0,c,s,h=>by simp[upE]
 | n+1,c,s,h=>by
  unfold upE
  cases hx:xa8 xs c with
  | none=>simp;omega
  | some x=>
   obtain⟨k,rfl,hk⟩:=xa5 hx;obtain⟨h1,h2⟩:=ho k x hk;obtain⟨h3,h4⟩:=xfb ho n x.super (s+x.slots) (by omega)
   simp only[xdr,if_true] at h3 h4 ⊢
   omega
def SlR {P:Nat->Prop}(w0:World)(cv:Value)(xs:List QC)(j:Nat)(s:Int)(w':World):Prop:=
 Below w0.heap.size w0 w'/\xag P w' cv xs/\w'.heap[w0.heap.size+1]?=some (.cells #[.int .i64 s] 3 (0,0))/\w'.cell? ⟨w0.heap.size,0,none⟩=some cv/\0<=s/\s<=6*j
theorem xhF {P:Nat->Prop}(X:QW)(c:Int)(cv hv:Value)(w:World)(hh:xag P w cv X.cz)(hH:xav P w hv X.heap)(ho:xcC X.cz):Calls Tryz.prog 83 #[WV cv hv X.ez,.int .i64 c] w fun e w'=>e=.returned (.int .i64 (xbw X.cz c))/\Below w.heap.size w w':=by
 have hm:=hmf;obtain⟨ad,cap,rfl,hl,hcap,hby,-⟩:=id hh;obtain⟨ah,ch,rfl,-,-,-,-⟩:=id hH;go_enter Tryz.func83,Tryz.ntmps83;go_wp2_with fail;refine (xjI (P:=P) (M:=fun b=>b=w.heap.size+1) xdr (SlR (P:=P) w (.slice ad X.cz.length cap) X.cz) _ _ X.cz c 0 _ _ _ _ (hh.later xax (xbp _ _ _)) ⟨_,_,_,rfl⟩ ?_ ?_ ?_ ?_ ?_).mono ?_
 ·refine⟨xbp _ _ _,hh.later xax (xbp _ _ _),?_,?_,by omega,by omega⟩
  ·have:=heap_alloc_new (w.alloc (Obj.cells #[Value.slice ad X.cz.length cap,Value.slice ah X.heap.length ch,Value.int .i64 X.ez] 26)) (Obj.cells #[Value.int .i64 0] 3)
   simpa using this
  ·exact qzA (xai _ _) (by rw[xab _ _ _ _ rfl];rfl)
 ·rintro b rfl;simp
 ·exact fun j s w' h=>h.2.1
 ·rintro j s w' w'' ⟨h1,h2,h3,h4,h5⟩ hb
  exact⟨xaf h1 hb,h2.later xax hb,by rw[hb.block _ (xam h3)];exact h3,qzA hb h4,h5⟩
 ·rintro j s k x w' hj ⟨h1,h2,h3,h4,h5,h6⟩ hx;obtain⟨o1,o2⟩:=ho k x hx;refine (xkq X.cz _ s k x (w.heap.size+1) w.heap.size w' (by omega) h3 h4 h2 hx (by rw[IntKind.wrap_i64];omega)).mono ?_
  rintro e w'' ⟨rfl,k1,k2,k3⟩;refine⟨rfl,⟨h1.trans (k3.mono (by omega)),?_,k1,k2 _ _ _ (by show _≠_;omega) h4,by show (0:Int)<=s+x.slots;omega,by show s+x.slots<=_;omega⟩,k2.mono fun b hb=>hb,k3.size⟩
  exact hh.later xax (h1.trans (k3.mono (by omega)))
 ·rintro e w1 ⟨rfl,j,h1,h2,h3,h4,h5⟩;have c1:=cell_of_one h3;go_wp2
  go_ret
  exact⟨rfl,h1⟩
def xga (name:ByteArray)(s:Int × Int)(k:Nat)(x:QC):(Int × Int) × Bool:=((if 0<=xcR x.mz name then (k:Int) else s.1,xcR x.mz name),decide (xcR x.mz name<0))
def xak (xs:List QC)(c:Int)(name:ByteArray):Int × Int:=upE (xga name) xs (xs.length+1) c (-1,-1)
theorem xnd {P:Nat->Prop}(n cap:Nat)(name:ByteArray)(s:Int × Int)(k:Nat)(x:QC)(b o bw bn bm bf lo:Nat)(mv:Value)(w:World)(hf:w.heap[bf]?=some (.cells #[.int .i64 s.1] 3 (0,0)))(hmm:w.heap[bm]?=some (.cells #[.int .i64 s.2] 3 (0,0)))(hw:w.cell? ⟨bw,0,none⟩=some (.slice (some ⟨b,o,none⟩) n cap))(hn:w.cell? ⟨bn,0,none⟩=some (.string name))
  (hk:k<n) (hv:w.cell? ⟨b,o+k*4+3,none⟩=some mv) (hM:xbU P w mv x.mz) (hne:bm≠bf) (h1:bm≠bw) (h2:bm≠bn) (h3:bm≠b) (hlm:lo<=bm) (hlf:lo<=bf) :
  Calls Tryz.prog 192 #[.int .i64 k,.pointer (some ⟨bw,0,none⟩),.pointer (some ⟨bn,0,none⟩),.pointer (some ⟨bm,0,none⟩),.pointer (some ⟨bf,0,none⟩)] w fun e w''=>e=.returned (.bool (xga name s k x).2)/\w''.heap[bf]?=some (.cells #[.int .i64 (xga name s k x).1.1] 3 (0,0))/\w''.heap[bm]?=some (.cells #[.int .i64 (xga name s k x).1.2] 3 (0,0))/\Keeps (fun b=>b≠bm/\b≠bf) w w''/\Below lo w w'':=by
 obtain⟨ad2,cap2,rfl,-,-,-,-⟩:=id hM;have hk0:(0:Int)<=(k:Int):=by omega
 have hk1:(k:Int)<(n:Int):=by omega
 have cm:=cell_of_one hmm;have fm:=free_of_one hmm;go_enter Tryz.func192,Tryz.ntmps192;go_wp2;have hS0:w.drew.cell? ⟨bw,0,none⟩=some (.slice (some ⟨b,o,none⟩) n cap)/\w.drew.cell? ⟨b,o+k*4+3,none⟩=some (.slice ad2 x.mz.length cap2)/\w.drew.cell? ⟨bn,0,none⟩=some (.string name):=⟨hw,hv,hn⟩;have hMd:=hM.later xbj (Below.refl _ _).drew;have hmd:w.drew.heap[bm]?=some (.cells #[.int .i64 s.2] 3 (0,0)):=hmm;have hfd:w.drew.heap[bf]?=some (.cells #[.int .i64 s.1] 3 (0,0)):=hf;clear hw hv hn hM cm fm
 go_region_held3 (fun w'=>w'.cell? ⟨bw,0,none⟩=some (.slice (some ⟨b,o,none⟩) n cap)/\w'.cell? ⟨b,o+k*4+3,none⟩=some (.slice ad2 x.mz.length cap2)/\w'.cell? ⟨bn,0,none⟩=some (.string name))
  (first | exact hS0 | exact hY | exact⟨(World.cell?_setCell_far _ _ _ _ h1).trans hY.1,(World.cell?_setCell_far _ _ _ _ h3).trans hY.2.1,(World.cell?_setCell_far _ _ _ _ h2).trans hY.2.2⟩)
  (first | (go_at_call 103;refine (xc6 x.mz _ name _ hMd).mono ?_;rintro e w1 ⟨rfl,hb⟩;have hY:w1.cell? ⟨bw,0,none⟩=some (.slice (some ⟨b,o,none⟩) n cap)/\w1.cell? ⟨b,o+k*4+3,none⟩=some (.slice ad2 x.mz.length cap2)/\w1.cell? ⟨bn,0,none⟩=some (.string name):=⟨qzA hb hS0.1,qzA hb hS0.2.1,qzA hb hS0.2.2⟩;have hm1:w1.heap[bm]?=some (.cells #[.int .i64 s.2] 3 (0,0)):=(by rw[hb.block _ (xam hmd)];exact hmd);have hf1:w1.heap[bf]?=some (.cells #[.int .i64 s.1] 3 (0,0)):=(by rw[hb.block _ (xam hfd)];exact hfd);have cm1:=cell_of_one hm1;have fm1:=free_of_one hm1))
 have hm2:=one_setCell (u:=.int .i64 (xcR x.mz name)) hm1;have hf2:(w1.setCell ⟨bm,0,none⟩ (.int .i64 (xcR x.mz name))).heap[bf]?=some (.cells #[.int .i64 s.1] 3 (0,0)):=by rw[xac (by omega)];exact hf1
 have hB2:Below lo w (w1.setCell ⟨bm,0,none⟩ (.int .i64 (xcR x.mz name))):=((Below.refl _ _).drew.trans (hb.mono (qzD hlm (Nat.le_of_lt (xam hmd))))).setCell hlm _;have hK2:Keeps (fun b=>b≠bm/\b≠bf) w (w1.setCell ⟨bm,0,none⟩ (.int .i64 (xcR x.mz name))):=xas (Keeps.of_below (xaf (Below.refl _ _).drew hb)) (fun h=>h.1 rfl) _
 have c3:=cell_of_one hm2;have c4:=cell_of_one hf2;have c5:=free_of_one hf2;clear hS0 hMd hmd hfd hb hY hm1 hf1 cm1 fm1 hmm hf;generalize w1.setCell ⟨bm,0,none⟩ (.int .i64 (xcR x.mz name))=w2 at *
 by_cases hp:0<=xcR x.mz name
 ·have c6:(w2.setCell ⟨bf,0,none⟩ (.int .i64 (k:Int))).cell? ⟨bm,0,none⟩=some (.int .i64 (xcR x.mz name)):=(World.cell?_setCell_far _ _ _ _ (by simp;omega)).trans c3
  go_wp2
  go_ret
  refine⟨xbg (by simp[xga]),?_,?_,?_,?_⟩
  ·have:=one_setCell (u:=.int .i64 (k:Int)) hf2
   simpa [xga,hp] using this
  ·rw[xac (by omega)];exact hm2
  ·exact xas hK2 (fun h=>h.2 rfl) _
  ·exact hB2.setCell hlf _
 ·have hp':xcR x.mz name<0:=by omega
  go_wp2
  go_ret
  refine⟨xbg (by simp[xga];exact hp'),?_,hm2,hK2,hB2⟩
  simp only[xga];rw[if_neg (by omega)]
  exact hf2
def FiR {P:Nat->Prop}(w0:World)(cv:Value)(xs:List QC)(name:ByteArray)(_:Nat)(s:Int × Int)(w':World):Prop:=
 Below w0.heap.size w0 w'/\xag P w' cv xs/\w'.heap[w0.heap.size+1+1]?=some (.cells #[.int .i64 s.1] 3 (0,0))/\w'.heap[w0.heap.size+1+1+1]?=some (.cells #[.int .i64 s.2] 3 (0,0))/\w'.cell? ⟨w0.heap.size,0,none⟩=some cv/\w'.cell? ⟨w0.heap.size+1,0,none⟩=some (.string name)
theorem xc4 {P:Nat->Prop}(X:QW)(c:Int)(name:ByteArray)(cv hv:Value)(w:World)(hh:xag P w cv X.cz)(hH:xav P w hv X.heap):Calls Tryz.prog 142 #[WV cv hv X.ez,.int .i64 c,.string name] w fun e w'=>e=.returned (.tuple #[.int .i64 (xak X.cz c name).1,.int .i64 (xak X.cz c name).2])/\Below w.heap.size w w':=by
 have hm:=hmf;obtain⟨ad,cap,rfl,hl,hcap,hby,hrow⟩:=id hh;obtain⟨ah,ch,rfl,-,-,-,-⟩:=id hH;go_enter Tryz.func142,Tryz.ntmps142;go_wp2_with fail;have hW:=(xeQ w (Obj.cells #[Value.slice ad X.cz.length cap,Value.slice ah X.heap.length ch,Value.int .i64 X.ez] 26) (Obj.cells #[Value.string name] 9) (Obj.cells #[Value.int .i64 (-1)] 3)).alloc (by simp;omega) (Obj.cells #[Value.int .i64 (-1)] 3)
 refine (xpI (P:=P) (M:=fun b=>b=w.heap.size+1+1+1\/b=w.heap.size+1+1) (xga name) (FiR (P:=P) w (.slice ad X.cz.length cap) X.cz name) _ _ _ _ X.cz c (-1,-1) _ _ _ _ (hh.later xax hW) ⟨_,_,_,rfl⟩ ?_ ?_ ?_ ?_ ?_).mono ?_
 ·refine⟨hW,hh.later xax hW,?_,?_,?_,?_⟩
  ·rw[(xai _ _).block _ (by simp)]
   have:=heap_alloc_new ((w.alloc (Obj.cells #[Value.slice ad X.cz.length cap,Value.slice ah X.heap.length ch,Value.int .i64 X.ez] 26)).alloc (Obj.cells #[Value.string name] 9)) (Obj.cells #[Value.int .i64 (-1)] 3)
   simpa using this
  ·have:=heap_alloc_new (((w.alloc (Obj.cells #[Value.slice ad X.cz.length cap,Value.slice ah X.heap.length ch,Value.int .i64 X.ez] 26)).alloc (Obj.cells #[Value.string name] 9)).alloc (Obj.cells #[Value.int .i64 (-1)] 3)) (Obj.cells #[Value.int .i64 (-1)] 3)
   simpa using this
  ·exact qzA (xeQ _ _ _ _) (by rw[xab _ _ _ _ rfl];rfl)
  ·exact qzA (xbp _ _ _) (by rw[xab _ _ _ _ (by simp)];rfl)
 ·rintro b (rfl | rfl)<;>simp
 ·exact fun j s w' h=>h.2.1
 ·rintro j s w' w'' ⟨h1,h2,h3,h4,h5,h6⟩ hb
  exact⟨xaf h1 hb,h2.later xax hb,by rw[hb.block _ (xam h3)];exact h3,by rw[hb.block _ (xam h4)];exact h4,qzA hb h5,qzA hb h6⟩
 ·rintro j s k x w' hj ⟨h1,h2,h3,h4,h5,h6⟩ hx;have hk:=xad hx;obtain⟨b,o,rfl,-,-,-,-,-,mv,hv,hM⟩:=hrow k x hx;have hbl:=World.block_lt_of_cell? _ _ hv
  simp at hbl
  refine (xnd X.cz.length cap name s k x b o w.heap.size (w.heap.size+1) (w.heap.size+1+1+1) (w.heap.size+1+1) w.heap.size mv w' h3 h4 h5 h6 hk (qzA h1 hv) (hM.later xbj h1) (by omega) (by omega) (by omega) (by omega) (by omega) (by omega)).mono ?_
  rintro e w'' ⟨rfl,k1,k2,k3,k4⟩;refine⟨rfl,⟨h1.trans k4,hh.later xax (h1.trans k4),k1,k2,k3 _ _ _ (by omega) h5,k3 _ _ _ (by omega) h6⟩,k3.mono fun b hb=>by omega,k4.size⟩
 ·rintro e w1 ⟨rfl,j,h1,h2,h3,h4,h5⟩;have c1:=cell_of_one h3;have c2:=cell_of_one h4;go_wp2
  go_quiet (fail)
  go_wp2;refine bodyPost_ret (v:=.tuple #[.int .i64 (xak X.cz c name).1,.int .i64 (xak X.cz c name).2]) ?_ rfl ⟨rfl,?_⟩
  ·simp[results,Tryz.results142,go_sem,xak]
  ·first | exact h1 | exact h1.drew | exact below_drewN h1 _
theorem xsa {b:Bool}(h:¬ b=false):b=true:=by cases b<;>simp_all
theorem xqF {b:Bool}(h:¬ b=true):b=false:=by cases b<;>simp_all
def okB (s:ByteArray):Bool:=decide (∀ j:Fin s.size,33<=(s[j.1]'j.2).toNat/\(s[j.1]'j.2).toNat<=126)
def xdz (s:ByteArray):Bool:=decide (1<=s.size/\s.size<=12) && okB s
theorem xqh {s:ByteArray}{j:Nat}(hj:j<s.size)(h:¬ (33<=s[j].toNat/\s[j].toNat<=126)):okB s=false:=by
 unfold okB;simp only[decide_eq_false_iff_not]
 exact fun k=>h (k ⟨j,hj⟩)
theorem xqW {s:ByteArray}(h:∀ j (hj:j<s.size),33<=s[j].toNat/\s[j].toNat<=126):okB s=true:=by
 unfold okB;simp only[decide_eq_true_eq]
 exact fun j=>h j.1 j.2
theorem xfo (s:ByteArray)(w:World)(hs:s.size<=140737488351232):Calls Tryz.prog 126 #[.string s] w fun e w'=>e=.returned (.bool (xdz s))/\Below w.heap.size w w':=by
 by_cases h0:s.size<1
 ·have h0':(s.size:Int)<1:=by omega
  have hn:xdz s=false:=by simp[xdz];omega
  rw[hn];go_enter Tryz.func126,Tryz.ntmps126;go_wp2
  go_ret
  exact⟨rfl,Below.refl _ _⟩
 ·have h0':(1:Int)<=(s.size:Int):=by omega
  by_cases h1:12<s.size
  ·have h1':(12:Int)<(s.size:Int):=by omega
   have hn:xdz s=false:=by simp[xdz];omega
   rw[hn];go_enter Tryz.func126,Tryz.ntmps126;go_wp2
   go_ret
   exact⟨rfl,Below.refl _ _⟩
  ·have h1':(s.size:Int)<=12:=by omega
   have HN:Hid (xdz s=okB s):=by show _=_;unfold xdz;rw[decide_eq_true (by omega)];rfl
   go_enter Tryz.func126,Tryz.ntmps126;go_wp2
   go_loopg [14] s.size (fun g c wr=>∃ j:Nat,j+g=s.size/\c=.int .i64 j/\wr=w/\∀ i (hi:i<s.size),i<j->33<=s[i].toNat/\s[i].toNat<=126)
   case atStart=>exact⟨0,by omega,rfl,rfl,fun i _ hi=>by omega⟩
   case round=>
    obtain⟨j,hj,rfl,rfl,hok⟩:=hrel;have HO:Hid (∀ i (hi:i<s.size),i<j->33<=s[i].toNat/\s[i].toNat<=126):=hok;clear hok
    by_cases hlt:j<s.size
    ·have hj0:(0:Int)<=(j:Int):=by omega
     have hj1:(j:Int)<(s.size:Int):=by omega
     by_cases c1:s[j].toNat<=32
     ·have hn:Hid (okB s=false):=xqh hlt (by omega)
      have c1':((s[j].toNat:Nat):Int)<=32:=by omega
      go_wp2
      go_ret
      exact⟨xbg (by rw[HN.out,hn.out]),Below.refl _ _⟩
     ·have c1':(32:Int)<((s[j].toNat:Nat):Int):=by omega
      by_cases c2:126<s[j].toNat
      ·have hn:Hid (okB s=false):=xqh hlt (by omega)
       have c2':(126:Int)<((s[j].toNat:Nat):Int):=by omega
       go_wp2
       go_ret
       exact⟨xbg (by rw[HN.out,hn.out]),Below.refl _ _⟩
      ·have c2':((s[j].toNat:Nat):Int)<=126:=by omega
       have HT:Hid (33<=s[j].toNat/\s[j].toNat<=126):=by constructor<;>omega
       clear c1 c2;go_wp2
       go_roundg (gk-1)
       case measure=>omega
       case rel=>
        refine⟨j+1,by omega,by go_num,rfl,fun i hi hij=>?_⟩
        by_cases he:i=j
        ·subst he;exact HT.out
        ·exact HO.out i hi (by omega)
    ·go_wp2
     go_ret
     exact⟨xbg (by rw[HN.out,xqW fun i hi=>HO.out i hi (by omega)]),Below.refl _ _⟩
def xhr (c:Int):Bool:=decide (c=1\/c=2\/c=3)
theorem xk7 (c:Int)(w:World):Calls Tryz.prog 128 #[.int .i64 c] w fun e w'=>e=.returned (.bool (xhr c))/\Below w.heap.size w w':=by
 by_cases h1:c=1
 ·subst h1;go_enter Tryz.func128,Tryz.ntmps128;go_wp2
  go_ret
  exact⟨rfl,Below.refl _ _⟩
 ·by_cases h2:c=2
  ·subst h2;go_enter Tryz.func128,Tryz.ntmps128;go_wp2
   go_ret
   exact⟨rfl,Below.refl _ _⟩
  ·have h1':(c == 1)=false:=by simpa using h1
   have h2':(c == 2)=false:=by simpa using h2
   have HP:Hid (xhr c=(c == 3)):=by show _=_;rw[Bool.eq_iff_iff];simp[xhr,h1,h2]
   clear h1 h2;go_enter Tryz.func128,Tryz.ntmps128;go_wp2
   go_ret
   exact⟨xbg HP.out.symm,Below.refl _ _⟩
theorem xj8 {xs:List QC}(ho:xcC xs)(hl:xs.length*56<=140737488351232)(c:Int):0<=xbw xs c/\xbw xs c<=9000000000000000000:=by
 have:=xfb ho (xs.length+1) c 0 (by omega)
 unfold xbw
 omega
theorem xnN {P:Nat->Prop}(X:QW)(c:Int)(cv hv:Value)(w:World)(hh:xag P w cv X.cz)(hH:xav P w hv X.heap)(ho:xcC X.cz):Calls Tryz.prog 127 #[WV cv hv X.ez,.int .i64 c] w fun e w'=>e=.returned (.int .i64 (6-xbw X.cz c))/\Below w.heap.size w w':=by
 obtain⟨ad,cap,rfl,hl,hcap,hby,-⟩:=id hh;obtain⟨ah,ch,rfl,-,-,-,-⟩:=id hH;have hr:=xj8 ho hby c;go_enter Tryz.func127,Tryz.ntmps127;go_wp2_with fail;refine (xhF X c _ _ _ (hh.later xax (xai _ _)) (hH.later xaB (xai _ _)) ho).mono ?_;rintro e w1 ⟨rfl,hb⟩;go_wp2
 go_ret
 exact⟨xa6 rfl,xbo (Below.refl _ _) hb⟩
def xhJ (xs:List QC)(name:ByteArray):Bool:=decide (0<=xbd (fun m:QC=>eqN m.name name) xs)
def xbY (xs:List QC)(name:ByteArray)(super slots:Int):Int:=
 if xdz name=false\/xhJ xs name=true then 7
 else if xc3 xs.length super=false then 6
 else if slots<0\/6-xbw xs super<slots\/xhr super=true then 3
 else if 12<=xs.length then 5 else 0
theorem xet {P:Nat->Prop}(X:QW)(name:ByteArray)(super slots:Int)(cv hv:Value)(w:World)(hn:name.size<=140737488351232)(hh:xag P w cv X.cz)(hH:xav P w hv X.heap)(ho:xcC X.cz):Calls Tryz.prog 98 #[WV cv hv X.ez,.string name,.int .i64 super,.int .i64 slots] w fun e w'=>e=.returned (.int .i64 (xbY X.cz name super slots))/\Below w.heap.size w w':=by
 have hm:=hmf;obtain⟨ad,cap,rfl,hl,hcap,hby,-⟩:=id hh;obtain⟨ah,ch,rfl,-,-,-,-⟩:=id hH;go_enter Tryz.func98,Tryz.ntmps98;have HC:Hid (∀ x:Obj,True):=fun _=>trivial
 have hc0:((w.alloc (Obj.cells #[Value.slice ad X.cz.length cap,Value.slice ah X.heap.length ch,Value.int .i64 X.ez] 26)).alloc (Obj.cells #[Value.string name] 9)).cell? ⟨w.heap.size,0,none⟩=some (Value.slice ad X.cz.length cap):=qzA (xai _ _) (by rw[xab _ _ _ _ rfl];rfl)
 have hc1:((w.alloc (Obj.cells #[Value.slice ad X.cz.length cap,Value.slice ah X.heap.length ch,Value.int .i64 X.ez] 26)).alloc (Obj.cells #[Value.string name] 9)).cell? ⟨w.heap.size,1,none⟩=some (Value.slice ah X.heap.length ch):=qzA (xai _ _) (by rw[xab _ _ _ _ rfl];rfl)
 have hc2:((w.alloc (Obj.cells #[Value.slice ad X.cz.length cap,Value.slice ah X.heap.length ch,Value.int .i64 X.ez] 26)).alloc (Obj.cells #[Value.string name] 9)).cell? ⟨w.heap.size,2,none⟩=some (Value.int .i64 X.ez):=qzA (xai _ _) (by rw[xab _ _ _ _ rfl];rfl)
 have hc3:((w.alloc (Obj.cells #[Value.slice ad X.cz.length cap,Value.slice ah X.heap.length ch,Value.int .i64 X.ez] 26)).alloc (Obj.cells #[Value.string name] 9)).cell? ⟨w.heap.size+1,0,none⟩=some (Value.string name):=by rw[xab _ _ _ _ (by simp)];rfl
 go_wp2_with fail;refine (xiD X.cz _ _ name _ hc3 (hh.later xax (xbp _ _ _))).mono ?_;rintro e w1 ⟨rfl,hb⟩;replace hc0:=qzA hb hc0;replace hc1:=qzA hb hc1;replace hc2:=qzA hb hc2;replace hc3:=qzA hb hc3;have hB:=xaf (xbp _ _ _) hb;clear hb;go_wp2_with fail;refine (xfo name _ hn).mono ?_;rintro e w2 ⟨rfl,hb⟩;replace hc0:=qzA hb hc0;replace hc1:=qzA hb hc1;replace hc2:=qzA hb hc2;replace hB:=xaf hB hb;clear hb hc3;have hTK:decide (0<=xbd (fun m:QC=>eqN m.name name) X.cz)=xhJ X.cz name:=rfl
 rw[hTK];clear hTK
 by_cases t1:xdz name=false\/xhJ X.cz name=true
 ·have HE:Hid (xbY X.cz name super slots=7):=by show _=_;unfold xbY;rw[if_pos t1]
  cases hnb:xdz name
  ·go_wp2
   go_ret
   exact⟨xa6 HE.out.symm,hB⟩
  ·have htk:xhJ X.cz name=true:=t1.resolve_left (by rw[hnb];simp)
   rw[htk];go_wp2
   go_ret
   exact⟨xa6 HE.out.symm,hB⟩
 ·have hnb:xdz name=true:=xsa fun h=>t1 (Or.inl h)
  have htk:xhJ X.cz name=false:=xqF fun h=>t1 (Or.inr h)
  rw[hnb,htk];go_wp2_with fail;refine (xdD _ _ _ _ _ _ _ _ _).mono ?_;rintro e w3 ⟨rfl,hb⟩;replace hc0:=qzA hb hc0;replace hc1:=qzA hb hc1;replace hc2:=qzA hb hc2;replace hB:=xaf hB hb;clear hb
  cases hhas:xc3 X.cz.length super
  ·have HE:Hid (xbY X.cz name super slots=6):=by show _=_;unfold xbY;rw[if_neg t1,if_pos hhas]
   go_wp2
   go_ret
   exact⟨xa6 HE.out.symm,hB⟩
  ·have HE:Hid (xbY X.cz name super slots=if slots<0\/6-xbw X.cz super<slots\/xhr super=true then 3 else if 12<=X.cz.length then 5 else 0):=by show _=_;unfold xbY;rw[if_neg t1,if_neg (by rw[hhas];simp)]
   by_cases s0:slots<0
   ·go_wp2
    go_ret
    exact⟨xa6 (by rw[HE.out,if_pos (Or.inl s0)]),hB⟩
   ·have s0':(0:Int)<=slots:=by omega
    go_wp2_with fail;refine (xnN X super _ _ _ (hh.later xax hB) (hH.later xaB hB) ho).mono ?_;rintro e w4 ⟨rfl,hb⟩;replace hc0:=qzA hb hc0;replace hB:=xaf hB hb;clear hb hc1 hc2
    by_cases s1:6-xbw X.cz super<slots
    ·go_wp2
     go_ret
     exact⟨xa6 (by rw[HE.out,if_pos (Or.inr (Or.inl s1))]),hB⟩
    ·have s1':slots<=6-xbw X.cz super:=by omega
     go_wp2_with fail;refine (xk7 super _).mono ?_;rintro e w5 ⟨rfl,hb⟩;replace hc0:=qzA hb hc0;replace hB:=xaf hB hb;clear hb
     cases hpl:xhr super
     ·have hE2:Hid (xbY X.cz name super slots=if 12<=X.cz.length then 5 else 0):=by
       show _=_
       rw[HE.out,if_neg];rintro (h | h | h)
       ·omega
       ·omega
       ·rw[hpl] at h;cases h
      by_cases s2:12<=X.cz.length
      ·have s2':(12:Int)<=(X.cz.length:Int):=by omega
       go_wp2
       go_ret
       exact⟨xa6 (by rw[hE2.out,if_pos s2]),hB⟩
      ·have s2':(X.cz.length:Int)<12:=by omega
       go_wp2
       go_ret
       exact⟨xa6 (by rw[hE2.out,if_neg s2]),hB⟩
     ·go_wp2
      go_ret
      exact⟨xa6 (by rw[HE.out,if_pos (Or.inr (Or.inr hpl))]),hB⟩
theorem xey {ops:Array Oper}{rest:List Oper}{o:Oper}{a:Act}{w:World}{Q:Exit->Act->World->Prop}(hgd:o.guard=none)(s x:Operand)
  (hop:o.op=Op.call { callee:=Callee.builtin Builtin.append,args:=#[s,x],argTypes:=#[23,23] }) (g n:Nat) (hs:a.eval s=.slice (some ⟨g,0,none⟩) n n) (Bb:Nat) (hx:a.eval x=.slice (some ⟨Bb,0,none⟩) 1 1)
  (cur:Array Value) (hcur:w.heap[g]?=some (.cells cur 80 (0,0))) (hlen:cur.size=n*4) (xs:List Value) (hX:w.heap[Bb]?=some (.cells xs.toArray 80 (0,0))) (hxl:xs.length=4) (h1:∀ u∈xs,u.oneCell'=true) (hn:n<1000)
  (hK:∀ g' cap cur' w',n+1<=cap->cap<=maxLen->w'.heap[g']?=some (.cells cur' 80 (0,0))->cur'.toList.take ((n+1)*4)=cur.toList++xs->w.heap.size<=g'->Below w.heap.size w w'->wpList Tryz.prog ops Q rest (a.put o.dst (.slice (some ⟨g',0,none⟩) (n+1) cap)) w') :
  wpList Tryz.prog ops Q (o :: rest) a w:=by
 obtain⟨i0,hi,hz0,hz1,hz2⟩:=xbu xqd;refine wpList_plain hgd fun K hKK=>?_
 obtain⟨v',w',hrun,r1,r2⟩:=run_append_arg_grows (P:=Tryz.prog) w 23 o.type 80 i0 _ 4 56 Tryz.underlying23 hi hz0 hz1 hz2 rfl (by decide) ⟨g,0,none⟩ n n cur.toList (by simpa using hlen) (fun j u hu=>by rw[Addr.add_lit,Nat.zero_add,qzB hcur];simpa using hu) ⟨Bb,0,none⟩ 1 1 xs (by simpa using hxl) (fun j u hu=>by rw[Addr.add_lit,Nat.zero_add,qzB hX];simpa using hu) (by omega) (by unfold maxLen;omega) (by omega)
 obtain⟨-,h | ⟨g',cap,cur',rfl,hb,hh,hc1,hc2,hc3,hc4⟩⟩:=r1
 ·omega
 unfold Oper.wp
 simp[execOp,hop,resolve,invoke,builtin,hs,hx,hrun,Result.andThen]
 exact hKK _ _ (hK g' cap cur' w' hc1 hc2 hh hc4 hb ((Below.refl _ _).grown r2 (qzC _) (fun k hk=>by cases hk)))
theorem xaR (w:World)(o:Obj)(n:Nat)(hn:w.heap.size=n):(w.alloc o).heap[n]?=some o:=by subst hn;exact heap_alloc_new w o
def xcj (X:QW)(name:ByteArray)(super slots:Int):QW:=⟨X.cz++[⟨name,super,slots,[]⟩],X.heap,X.ez⟩
theorem IsRow.get {α:Type}{E:Lay α}{sz bytes:Nat}{P:Nat->Prop}{w:World}{v:Value}{xs:List α}(h:IsRow E sz bytes P w v xs):∃ ad cap,v=.slice ad xs.length cap:=by
 obtain⟨ad,cap,rfl,-⟩:=h;exact⟨_,_,rfl⟩
section
variable {α:Type} {E:Lay α} {sz:Nat} {P:Nat->Prop} {w:World} {cs:List Value} {xs:List α}
theorem Cells.take (h:Cells E sz P w cs xs)(G:Good E sz)(p:Nat)(hp:p<=xs.length):Cells E sz P w (cs.take (p*sz)) (xs.take p):=by
 have hl:=h.1;have hle:=Nat.mul_le_mul_right sz hp;refine⟨by rw[List.length_take,List.length_take,hl,Nat.min_eq_left hle,Nat.min_eq_left hp],fun i x hx=>?_⟩
 rw[List.getElem?_take] at hx
 split at hx
 ·rename_i hi;refine G.move (h.2 i x hx) (fun _ h=>h) (.refl _ _) fun k hk v hv=>?_
  rw[List.getElem?_take,if_pos]
  ·exact hv
  ·have:=Nat.mul_le_mul_right sz (show i+1<=p by omega)
   rw[Nat.add_mul] at this
   omega
 ·cases hx
theorem Cells.drop (h:Cells E sz P w cs xs)(G:Good E sz)(p:Nat)(hp:p<=xs.length):Cells E sz P w (cs.drop (p*sz)) (xs.drop p):=by
 have hl:=h.1;refine⟨by rw[List.length_drop,List.length_drop,hl,Nat.sub_mul],fun i x hx=>?_⟩
 rw[List.getElem?_drop] at hx;refine G.move (h.2 _ x hx) (fun _ h=>h) (.refl _ _) fun k hk v hv=>?_
 rw[List.getElem?_drop,← Nat.add_assoc,← Nat.add_mul]
 exact hv
end
theorem xoI {w:World}{gc hi at':Nat}{Q:Nat->Prop}{cur:Array Value}{xs:List QM}{m:QM}{vs:List Value}(hcur:w.heap[gc]?=some (.cells cur 51 (0,0)))(hcs:Cells xf9 5 (fun b=>gc<b/\b<hi) w cur.toList xs)(ha:at'<xs.length)(hvl:vs.length=5)(hm:xf9 (fun b=>Q b/\b≠gc) w (fun k=>vs[k]?) m)(hL:Q gc)(hQ:∀ b,gc<b->b<hi->Q b)(hby:xs.length*64<=140737488351232) :
  xbU Q (w.setCells gc (at'*5) vs) (.slice (some ⟨gc,0,none⟩) xs.length xs.length) (xs.set at' m):=by
 have hl:cur.size=xs.length*5:=by simpa using hcs.1
 refine⟨_,xs.length,by simp,by simp,by unfold maxLen;omega,by simpa using hby,fun i x hx=>⟨gc,0,rfl,hL,?_⟩⟩
 have hi:=xad hx
 simp at hi
 simp only[Nat.zero_add]
 by_cases he:i=at'
 ·subst he;rw[List.getElem?_set_self ha] at hx
  cases hx
  refine xbj.move hm (fun b hb=>hb.1) (Keeps.of_block fun b hb _=>xaF hb.2 _ _ _) fun k hk v hv=>?_
  rw[World.cell?_setCells_in gc vs (i*5) w (fun q hq=>by rw[qzB hcur];simp;omega) k (by omega)]
  rw[List.getElem?_eq_getElem (by omega)] at hv
  exact hv
 ·rw[List.getElem?_set_ne (by omega)] at hx
  refine xbj.move (hcs.2 i x hx) (fun b hb=>hQ b hb.1 hb.2) (Keeps.of_block fun b hb _=>xaF (by have:=hb.1;omega) _ _ _) fun k hk v hv=>?_
  rw[World.cell?_setCells_out gc vs (at'*5) w _ (fun _ _=>by simp;omega),qzB hcur]
  simpa using hv
theorem xhi {w wf:World}{g c L:Nat}{xs:List QC}{s:Nat->Nat}{x:QC}{vc:Value}{ms:List QM}(h:OwnC w g xs s xs.length)(hx:xs[c]?=some x)(hby:xs.length*56<=140737488351232)(hL:L<=g)
  (hg:∀ o v,o≠c*4+3->w.cell? ⟨g,o,none⟩=some v->wf.cell? ⟨g,o,none⟩=some v) (hc3:wf.cell? ⟨g,c*4+3,none⟩=some vc) (hk:∀ i,i≠c->i<xs.length->Keeps (fun b=>s i<=b/\b<s (i+1)) w wf) (hv:xbU (fun b=>L<=b) wf vc ms) :
  xag (fun b=>L<=b) wf (.slice (some ⟨g,0,none⟩) xs.length xs.length) (xs.set c { x with mz:=ms }):=by
 have hc:=xad hx;refine⟨_,xs.length,by simp,by simp,by unfold maxLen;omega,by simpa using hby,fun i y hy=>⟨g,0,rfl,hL,?_⟩⟩
 have hi:=xad hy
 simp at hi
 simp only[Nat.zero_add];have hs:=h.2.1;have hm:=h.mono 0 i (by omega) (by omega)
 by_cases he:i=c
 ·subst he;rw[List.getElem?_set_self hc] at hy
  cases hy
  obtain⟨h0,h1,h2,h3,-⟩:=h.2.2.2.2 i x hi hx
  exact⟨hg _ _ (by omega) h0,hg _ _ (by omega) h1,hg _ _ (by omega) h2,h3,vc,hc3,hv⟩
 ·rw[List.getElem?_set_ne (by omega)] at hy
  have hK:=h.2.2.2.2 i y hi hy;obtain⟨g',e1,e2,e3⟩:=hK.meths;obtain⟨h0,h1,h2,h3,-⟩:=hK
  exact⟨hg _ _ (by omega) h0,hg _ _ (by omega) h1,hg _ _ (by omega) h2,h3,_,hg _ _ (by omega) e1,e3.keep xbj (hk i he hi) fun b hb=>by have:=hb.1;omega⟩
def xmC (xs:List QM)(m:QM):List QM:=
 if 0<=xcR xs m.name then xs.set (xcR xs m.name).toNat m else xs.take (xcM xs m.name).toNat++[m]++xs.drop (xcM xs m.name).toNat
def xd8 (e:Int):Int:=wrap64 (e+1)
def xdf (X:QW)(c:Nat)(x:QC)(m:QM):QW:=⟨X.cz.set c { x with mz:=xmC x.mz m },X.heap,xd8 X.ez⟩
theorem xq5 {xs:List QM}{name:ByteArray}(h:0<=xcR xs name):(xcR xs name).toNat<xs.length:=by
 unfold xcR xbd at h ⊢
 cases hf:xs.findIdx? (fun m=>eqN m.name name) with
 | none=>rw[hf] at h;simp at h
 | some i=>
  simp
  rw[List.findIdx?_eq_some_iff_getElem] at hf
  exact hf.1
theorem xgH {xs:List QM}{name:ByteArray}:0<=xcM xs name/\(xcM xs name).toNat<=xs.length:=by
 unfold xcM
 split
 ·simp
 ·rename_i h;unfold xbd at h ⊢
  cases hf:xs.findIdx? (fun m=>gtN m.name name) with
  | none=>rw[hf] at h;simp at h
  | some i=>
   simp
   rw[List.findIdx?_eq_some_iff_getElem] at hf
   exact Nat.le_of_lt hf.1
set_option maxRecDepth 8000
def xqf:Lay Int:=fun _ _ f x=>f 0=some (.int .i64 x)
abbrev xfp:=IsRow xqf 1 8
theorem xrH:Good xqf 1 where
 move h _ _ hf:=hf 0 (by omega) _ h
 there h k hk:=by
  obtain rfl:k=0:=by omega
  exact⟨_,h,rfl⟩
 pos:=by omega
theorem xp7 {P:Nat->Prop}{w:World}(l:List Int):Cells xqf 1 P w (l.map fun x=>.int .i64 x) l:=by
 refine⟨by simp,fun i x hx=>?_⟩
 show (l.map fun x=>Value.int .i64 x)[i*1+0]?=_
 simp[hx]
def xnP (xs:List QC):Nat->Int->List Int
 | 0,_=>[]
 | n+1,c=>match xa8 xs c with
  | none=>[]
  | some x=>c :: xnP xs n x.super
theorem xsm:(Tryz.prog.info? 3).map (fun i=>(i.zero,i.size,i.bytes))=some (some (.int .i64 0),1,8):=by kernel_rfl
theorem xgf {xs:List QC}:∀ (n:Nat) (c:Int) (i:Nat) (k:Int),(xnP xs n c)[i]?=some k->∃ (q:Nat) (x:QC),k=(q:Int)/\xs[q]?=some x
 | 0,c,i,k,h=>by simp[xnP] at h
 | n+1,c,i,k,h=>by
  unfold xnP at h
  cases hx:xa8 xs c with
  | none=>rw[hx] at h;simp at h
  | some x=>
   rw[hx] at h
   cases i with
   | zero=>
    simp at h
    subst h;obtain⟨q,rfl,hq⟩:=xa5 hx
    exact⟨q,x,rfl,hq⟩
   | succ i=>simp at h;exact xgf n x.super i k h
theorem xph {xs:List QM}{name:ByteArray}(h:xcR xs name<0):xcR xs name=-1:=by
 unfold xcR xbd at h ⊢
 cases hf:xs.findIdx? (fun m=>eqN m.name name) with
 | none=>simp
 | some i=>rw[hf] at h;simp at h;omega
def xcJ (xs:List QC)(k:Int):List QM:=((xa8 xs k).map QC.mz).getD []
def xdi (xs:List QC)(name:ByteArray):List Int->Int × Int
 | []=>(-1,-1)
 | k :: r=>if 0<=xcR (xcJ xs k) name then (k,xcR (xcJ xs k) name) else xdi xs name r
theorem xlu {xs:List QC}{name:ByteArray}:∀ (n:Nat) (c:Int),upE (xga name) xs n c (-1,-1)=xdi xs name (xnP xs n c)
 | 0,c=>rfl
 | n+1,c=>by
  unfold upE xnP
  cases hx:xa8 xs c with
  | none=>rfl
  | some x=>
   have hm:xcJ xs c=x.mz:=by simp[xcJ,hx]
   obtain⟨q,rfl,-⟩:=xa5 hx;simp only[xdi,hm,xga,Int.toNat_natCast]
   by_cases h:0<=xcR x.mz name
   ·have h':¬ xcR x.mz name<0:=by omega
    simp[h,h']
   ·have h':xcR x.mz name<0:=by omega
    rw[if_neg h,if_neg h,decide_eq_true h',if_pos rfl,xph h']
    exact xlu n x.super
theorem xfS {xs:List QC}(c:Int)(name:ByteArray):xak xs c name=xdi xs name (xnP xs (xs.length+1) c):=xlu _ _
theorem xqS:laidOutB Tryz.prog=true:=by kernel_rfl
theorem own:ownKnob Tryz.prog.godebug=none:=by kernel_rfl
section
variable {H:Type} {enc:TypeId × Value->H} {w:World} {base:Nat} {spare:Nat->Bool} {held:Bool}
end
def xrh:List QM:=[⟨⟨#[42]⟩,1,0,3,[]⟩,⟨⟨#[43]⟩,1,0,1,[]⟩,⟨⟨#[45]⟩,1,0,2,[]⟩,⟨⟨#[60]⟩,1,0,4,[]⟩,⟨⟨#[61]⟩,1,0,5,[]⟩]
def xo1:List QC:=[⟨⟨#[79,98,106,101,99,116]⟩,-1,0,[]⟩,⟨⟨#[78,105,108]⟩,0,0,[]⟩,⟨⟨#[66,111,111,108]⟩,0,0,[]⟩,⟨⟨#[73,110,116]⟩,0,0,xrh⟩]
def xlV:QW:=⟨xo1,[],0⟩
theorem xb9 {α:Type}{E:Lay α}{sz bytes:Nat}{P:Nat->Prop}{w:World}:IsRow E sz bytes P w (.slice none 0 0) []:=
 ⟨none,0,rfl,qzC _,by unfold maxLen;omega,by simp,fun i x hx=>by simp at hx⟩
theorem xfc {P:Nat->Prop}{w:World}(x:QM)(v:Value)(h:x.name.size<=140737488351232)(hv:xaG P w v x.code):Cells xf9 5 P w [.string x.name,.int .i64 x.args,.int .i64 x.temps,.int .i64 x.prim,v] [x]:=
 Cells.one xbj rfl ⟨rfl,rfl,rfl,rfl,h,v,rfl,hv⟩
theorem xeV {P:Nat->Prop}{w:World}(x:QC)(v:Value)(h:x.name.size<=140737488351232)(hv:xbU P w v x.mz):Cells xkb 4 P w [.string x.name,.int .i64 x.super,.int .i64 x.slots,v] [x]:=
 Cells.one xax rfl ⟨rfl,rfl,rfl,h,v,rfl,hv⟩
def xr7:List Value:=[.string ⟨#[42]⟩,.int .i64 1,.int .i64 0,.int .i64 3,.slice none 0 0,.string ⟨#[43]⟩,.int .i64 1,.int .i64 0,.int .i64 1,.slice none 0 0,.string ⟨#[45]⟩,.int .i64 1,.int .i64 0,.int .i64 2,.slice none 0 0,.string ⟨#[60]⟩,.int .i64 1,.int .i64 0,.int .i64 4,.slice none 0 0,.string ⟨#[61]⟩,.int .i64 1,.int .i64 0,.int .i64 5,.slice none 0 0]
theorem xmx {P:Nat->Prop}{w:World}:Cells xf9 5 P w xr7 xrh:=
 ((((xfc ⟨⟨#[42]⟩,1,0,3,[]⟩ _ (by decide) xb9).append xbj (xfc ⟨⟨#[43]⟩,1,0,1,[]⟩ _ (by decide) xb9)).append xbj (xfc ⟨⟨#[45]⟩,1,0,2,[]⟩ _ (by decide) xb9)).append xbj (xfc ⟨⟨#[60]⟩,1,0,4,[]⟩ _ (by decide) xb9)).append xbj (xfc ⟨⟨#[61]⟩,1,0,5,[]⟩ _ (by decide) xb9)
def xqn (v:Value):List Value:=[.string ⟨#[79,98,106,101,99,116]⟩,.int .i64 (-1),.int .i64 0,.slice none 0 0,.string ⟨#[78,105,108]⟩,.int .i64 0,.int .i64 0,.slice none 0 0,.string ⟨#[66,111,111,108]⟩,.int .i64 0,.int .i64 0,.slice none 0 0,.string ⟨#[73,110,116]⟩,.int .i64 0,.int .i64 0,v]
theorem xmq {P:Nat->Prop}{w:World}{v:Value}(h:xbU P w v xrh):Cells xkb 4 P w (xqn v) xo1:=
 (((xeV ⟨⟨#[79,98,106,101,99,116]⟩,-1,0,[]⟩ _ (by decide) xb9).append xax (xeV ⟨⟨#[78,105,108]⟩,0,0,[]⟩ _ (by decide) xb9)).append xax (xeV ⟨⟨#[66,111,111,108]⟩,0,0,[]⟩ _ (by decide) xb9)).append xax (xeV ⟨⟨#[73,110,116]⟩,0,0,xrh⟩ v (by decide) h)
def ltN (a b:ByteArray):Bool:=Op.bytesLess a.toList b.toList
def xlo (ms:List QM):Prop:=∀ (i:Nat) x y,ms[i]?=some x->ms[i+1]?=some y->ltN x.name y.name=true
structure NextR where
 need:Int
 more:Int
 next:List Int
def xaO (x:QI)(at':Int):NextR:=
 if x.op=9\/x.op=11\/x.op=12 then ⟨1,-1,[at'+1]⟩
 else if x.op=10 then ⟨1,1,[at'+1]⟩
 else if x.op=14 then ⟨x.a+1,-x.a,[at'+1]⟩
 else if x.op=15 then ⟨0,0,[x.a]⟩
 else if x.op=16 then ⟨1,-1,[at'+1,x.a]⟩
 else if x.op=17 then ⟨1,-1,[]⟩
 else ⟨0,1,[at'+1]⟩
def xdb (code:List QI):Prop:=∀ x∈code,x.op=14->0<=x.a/\x.a<=4
theorem xeC {x:QI}(h:x.op=14->0<=x.a/\x.a<=4)(p:Int):0<=(xaO x p).need/\(xaO x p).need<=5/\-4<=(xaO x p).more/\(xaO x p).more<=1/\0<=(xaO x p).need+(xaO x p).more/\(xaO x p).next.length<=2:=by
 unfold xaO
 by_cases h14:x.op=14
 ·obtain⟨h1,h2⟩:=h h14
  simp[h14]
  omega
 ·(repeat' split)<;>simp_all
def xdI (code:List QI)(p:Int):Option QI:=if 0<=p then code[p.toNat]? else none
theorem xdW {code:List QI}{p:Int}{x:QI}(h:xdI code p=some x):∃ k:Nat,p=(k:Int)/\code[k]?=some x:=by
 unfold xdI at h
 split at h
 ·exact⟨p.toNat,by omega,h⟩
 ·cases h
theorem xj3 {code:List QI}{p:Int}:xdI code p=none ↔ p<0\/(code.length:Int)<=p:=by
 unfold xdI
 split
 ·rw[List.getElem?_eq_none_iff];omega
 ·simp;omega
def xc8 (code:List QI)(h:List Int)(p:Int × Int):(Int × Int) ⊕ (List Int × List (Int × Int)):=
 match xdI code p.1 with
 | none=>.inl (9,(code.length:Int))
 | some x=>
  if 0<=h.getD p.1.toNat 0 then if h.getD p.1.toNat 0≠p.2 then .inl (8,p.1) else .inr (h,[])
  else if p.2<(xaO x p.1).need\/x.op=17/\p.2≠1 then .inl (8,p.1)
  else if 12<p.2+(xaO x p.1).more then .inl (4,p.1)
  else .inr (h.set p.1.toNat p.2,(xaO x p.1).next.map fun t=>(t,p.2+(xaO x p.1).more))
def xjM (code:List QI):Nat->List Int->List (Int × Int)->List Int × (Int × Int)
 | 0,h,_=>(h,(0,0))
 | _+1,h,[]=>(h,(0,0))
 | g+1,h,p :: q=>match xc8 code h p with
  | .inl f=>([],f)
  | .inr (h',new)=>xjM code g h' (q++new)
def xf8 (h:List Int)(q:List (Int × Int)):Nat:=q.length+2*h.countP (fun v=>decide (v<0))
def xeq (n:Nat):List Int:=List.replicate n (-1)
def xaN (code:List QI):List Int × (Int × Int):=xjM code (2*code.length+1) (xeq code.length) [(0,0)]
theorem xmI {h:List Int}{k:Nat}{v:Int}(hk:h.getD k 0<0)(hv:0<=v)(hl:k<h.length):(h.set k v).countP (fun v=>decide (v<0))+1=h.countP (fun v=>decide (v<0)):=by
 induction h generalizing k with
 | nil=>simp at hl
 | cons a r ih=>
  cases k with
  | zero=>
   have:a<0:=by simpa using hk
   have hv':¬ v<0:=by omega
   simp[List.set,this,hv']
  | succ k=>
   simp only[List.set,List.countP_cons];have:=ih (k:=k) (by simpa using hk) (by simpa using hl)
   omega
structure HInv (code:List QI)(h:List Int)(q:List (Int × Int)):Prop where
 len:h.length=code.length
 wait:∀ p∈q,0<=p.2/\p.2<=12
theorem HInv.start (code:List QI):HInv code (xeq code.length) [(0,0)]:=⟨by simp[xeq],fun p hp=>by simp at hp;subst hp;simp⟩
theorem xg0 (code:List QI):xf8 (xeq code.length) [(0,0)]=2*code.length+1:=by
 simp[xf8,xeq,List.countP_replicate];omega
theorem HInv.step {code:List QI}{h h':List Int}{p:Int × Int}{q new:List (Int × Int)}(hi:HInv code h (p :: q))(hs:xdb code)(he:xc8 code h p=.inr (h',new)):HInv code h' (q++new)/\xf8 h' (q++new)+1<=xf8 h (p :: q):=by
 have hw:=hi.wait p (by simp)
 have hq:∀ r∈q,0<=r.2/\r.2<=12:=fun r hr=>hi.wait r (by simp[hr])
 unfold xc8 at he
 cases hx:xdI code p.1 with
 | none=>rw[hx] at he;cases he
 | some x=>
  rw[hx] at he;simp only at he;obtain⟨k,hk,hxk⟩:=xdW hx;have hr:=xeC (x:=x) (hs x (List.mem_of_getElem? hxk)) p.1
  split at he
  ·split at he
   ·cases he
   ·simp only[Sum.inr.injEq,Prod.mk.injEq] at he;obtain⟨rfl,rfl⟩:=he
    exact⟨⟨hi.len,by simpa using hq⟩,by simp[xf8];omega⟩
  ·rename_i hneg
   split at he
   ·cases he
   ·rename_i hfit
    split at he
    ·cases he
    ·rename_i hmuch;simp only[Sum.inr.injEq,Prod.mk.injEq] at he;obtain⟨rfl,rfl⟩:=he
     have hl:p.1.toNat<h.length:=by
      have:=xad hxk;rw[hi.len];omega
     have hc:=xmI (h:=h) (k:=p.1.toNat) (v:=p.2) (by omega) hw.1 hl
     refine⟨⟨by rw[List.length_set];exact hi.len,fun r hr'=>?_⟩,?_⟩
     ·rcases List.mem_append.1 hr' with h1 | h1
      ·exact hq r h1
      ·obtain⟨t,-,rfl⟩:=List.mem_map.1 h1;have:¬ (p.2<(xaO x p.1).need):=fun h=>hfit (Or.inl h)
       simp only
       omega
     ·simp only[xf8,List.length_append,List.length_map,List.length_cons]
      omega
theorem xeZ {code:List QI}{h:List Int}{p f:Int × Int}(he:xc8 code h p=.inl f):f.1≠0:=by
 unfold xc8 at he
 cases hx:xdI code p.1 with
 | none=>rw[hx] at he;simp at he;rw[← he];simp
 | some x=>
  rw[hx] at he;simp only at he
  (repeat' split at he)<;>simp at he<;>rw[← he]<;>simp
def HAt (code:List QI)(h:List Int)(q:List (Int × Int))(k:Nat)(x:QI):Prop:=
 (xaO x k).need<=h.getD k 0/\h.getD k 0<=12/\(x.op=17->h.getD k 0=1)/\
  ∀ t∈(xaO x k).next,(t,h.getD k 0+(xaO x k).more)∈q\/∃ j:Nat,t=(j:Int)/\j<code.length/\h.getD j 0=h.getD k 0+(xaO x k).more
def HClo (code:List QI)(h:List Int)(q:List (Int × Int)):Prop:=
 ((0,0)∈q\/0<code.length/\h.getD 0 0=0)/\∀ (k:Nat) x,code[k]?=some x->0<=h.getD k 0->HAt code h q k x
theorem HClo.start (code:List QI):HClo code (xeq code.length) [(0,0)]:=by
 refine⟨Or.inl (by simp),fun k x hx h0=>?_⟩
 have hk:=xad hx
 simp[xeq,hk] at h0
theorem xiU {h:List Int}{k:Nat}{v:Int}(hk:k<h.length):(h.set k v).getD k 0=v:=by simp[hk]
theorem xcf {h:List Int}{k j:Nat}{v:Int}(hk:k≠j):(h.set k v).getD j 0=h.getD j 0:=by simp[List.getElem?_set_ne hk]
theorem HClo.step {code:List QI}{h h':List Int}{p:Int × Int}{q new:List (Int × Int)}(hi:HInv code h (p :: q))(hc:HClo code h (p :: q))(hs:xdb code)(he:xc8 code h p=.inr (h',new)):HClo code h' (q++new):=by
 have hw:=hi.wait p (by simp)
 unfold xc8 at he
 cases hx:xdI code p.1 with
 | none=>rw[hx] at he;cases he
 | some x=>
  rw[hx] at he;simp only at he;obtain⟨k,hk,hxk⟩:=xdW hx;have hkl:=xad hxk;have hpk:p.1.toNat=k:=by omega
  rw[hpk] at he
  split at he
  ·rename_i hge
   split at he
   ·cases he
   ·rename_i heq;simp only[Sum.inr.injEq,Prod.mk.injEq] at he;obtain⟨rfl,rfl⟩:=he;have heq':h.getD k 0=p.2:=by simpa using heq
    have mem:∀ t v,(t,v)∈p :: q->(t,v)∈q++[]\/∃ j:Nat,t=(j:Int)/\j<code.length/\h.getD j 0=v:=fun t v hm=>by
     rcases List.mem_cons.1 hm with e | e
     ·exact Or.inr ⟨k,by rw[← hk,← e],hkl,by rw[heq',← e]⟩
     ·exact Or.inl (by simpa using e)
    refine⟨?_,fun j y hy h0=>?_⟩
    ·rcases hc.1 with e | e
     ·rcases mem 0 0 e with e | ⟨j,e1,e2,e3⟩
      ·exact Or.inl e
      ·obtain rfl:j=0:=by omega
       exact Or.inr ⟨e2,e3⟩
     ·exact Or.inr e
    ·obtain⟨a1,a2,a3,a4⟩:=hc.2 j y hy h0;refine⟨a1,a2,a3,fun t ht=>?_⟩
     rcases a4 t ht with e | e
     ·exact mem _ _ e
     ·exact Or.inr e
  ·rename_i hneg
   split at he
   ·cases he
   ·rename_i hfit
    split at he
    ·cases he
    ·rename_i hmuch;simp only[Sum.inr.injEq,Prod.mk.injEq] at he;obtain⟨rfl,rfl⟩:=he;have hl:k<h.length:=by rw[hi.len];exact hkl
     have hself:(h.set k p.2).getD k 0=p.2:=xiU hl
     have mem:∀ t v,(t,v)∈p :: q->(t,v)∈q++(xaO x p.1).next.map (fun t=>(t,p.2+(xaO x p.1).more))\/∃ j:Nat,t=(j:Int)/\j<code.length/\(h.set k p.2).getD j 0=v:=fun t v hm=>by
      rcases List.mem_cons.1 hm with e | e
      ·exact Or.inr ⟨k,by rw[← hk,← e],hkl,by rw[hself,← e]⟩
      ·exact Or.inl (List.mem_append_left _ e)
     refine⟨?_,fun j y hy h0=>?_⟩
     ·rcases hc.1 with e | e
      ·rcases mem 0 0 e with e | ⟨j,e1,e2,e3⟩
       ·exact Or.inl e
       ·obtain rfl:j=0:=by omega
        exact Or.inr ⟨e2,e3⟩
      ·refine Or.inr ⟨e.1,?_⟩
       by_cases hk0:k=0
       ·subst hk0;rw[e.2] at hneg;omega
       ·rw[xcf hk0];exact e.2
     ·by_cases hjk:j=k
      ·subst hjk;rw[hxk] at hy
       cases hy
       unfold HAt;rw[hself,← hk];refine⟨?_,hw.2,fun h17=>?_,fun t ht=>Or.inl (List.mem_append_right _ (List.mem_map.2 ⟨t,ht,rfl⟩))⟩
       ·have:¬ (p.2<(xaO x p.1).need):=fun h=>hfit (Or.inl h)
        omega
       ·have:¬ (p.2≠1):=fun h=>hfit (Or.inr ⟨h17,h⟩)
        omega
      ·have hjk':k≠j:=fun e=>hjk e.symm
       rw[xcf hjk'] at h0;obtain⟨a1,a2,a3,a4⟩:=hc.2 j y hy h0;unfold HAt;rw[xcf hjk'];refine⟨a1,a2,a3,fun t ht=>?_⟩
       rcases a4 t ht with e | ⟨i,e1,e2,e3⟩
       ·exact mem _ _ e
       ·refine Or.inr ⟨i,e1,e2,?_⟩;have hr:=xeC (x:=y) (hs y (List.mem_of_getElem? hy)) j;have hik:k≠i:=fun e=>by subst e;omega
        rw[xcf hik];exact e3
theorem xnB {code:List QI}(hs:xdb code):∀ (g:Nat) (h:List Int) (q:List (Int × Int)),HInv code h q->HClo code h q->xf8 h q<=g->(xjM code g h q).2.1=0->HInv code (xjM code g h q).1 []/\HClo code (xjM code g h q).1 []
 | 0,h,q,hi,hc,hg,he=>by
  have:q=[]:=List.eq_nil_of_length_eq_zero (by unfold xf8 at hg;omega)
  subst this
  exact⟨hi,hc⟩
 | g+1,h,[],hi,hc,hg,he=>⟨hi,hc⟩
 | g+1,h,p :: q,hi,hc,hg,he=>by
  unfold xjM at he ⊢
  cases hst:xc8 code h p with
  | inl f=>rw[hst] at he;exact absurd he (xeZ hst)
  | inr r=>
   obtain⟨h',new⟩:=r;rw[hst] at he;have h1:=hi.step hs hst
   exact xnB hs g h' (q++new) h1.1 (hc.step hi hs hst) (by omega) he
theorem xhZ {code:List QI}(hs:xdb code)(he:(xaN code).2.1=0):(xaN code).1.length=code.length/\0<code.length/\(xaN code).1.getD 0 0=0/\∀ (k:Nat) x,code[k]?=some x->0<=(xaN code).1.getD k 0->
  (xaO x k).need<=(xaN code).1.getD k 0/\(xaN code).1.getD k 0<=12/\(x.op=17->(xaN code).1.getD k 0=1)/\∀ t∈(xaO x k).next,∃ j:Nat,t=(j:Int)/\j<code.length/\(xaN code).1.getD j 0=(xaN code).1.getD k 0+(xaO x k).more:=by
 obtain⟨h1,h2,h3⟩:=xnB hs _ _ _ (HInv.start code) (HClo.start code) (Nat.le_of_eq (xg0 code)) he
 have h0:0<code.length/\(xaN code).1.getD 0 0=0:=by
  rcases h2 with h | h;· simp at h
  ·exact h
 refine⟨h1.len,h0.1,h0.2,fun k x hx hk=>?_⟩
 obtain⟨a1,a2,a3,a4⟩:=h3 k x hx hk;refine⟨a1,a2,a3,fun t ht=>?_⟩
 rcases a4 t ht with e | e
 ·simp at e
 ·exact e
def ownsAt (w:World)(base:Nat)(e:TypeId)(sz:Nat)(v:Value)(n:Nat)(xs:List Value):Prop:=
 xs.length=n*sz/\((v=.slice none 0 0/\n=0)\/∃ g o cap cur,v=.slice (some ⟨g,o,none⟩) n cap/\base<=g/\w.heap[g]?=some (.cells cur e (0,0))/\n<=cap/\cap<=maxLen/\o+cap*sz<=cur.size/\(cur.toList.drop o).take (n*sz)=xs)
theorem ownsAt.keep {w w':World}{base:Nat}{e:TypeId}{sz:Nat}{v:Value}{n:Nat}{xs:List Value}(h:ownsAt w base e sz v n xs)(hk:∀ g,v.ownBlock=some g->w'.heap[g]?=w.heap[g]?):ownsAt w' base e sz v n xs:=by
 obtain⟨h1,h2 | ⟨g,o,cap,cur,rfl,h3,h4,h5⟩⟩:=h
 ·exact⟨h1,Or.inl h2⟩
 ·exact⟨h1,Or.inr ⟨g,o,cap,cur,rfl,h3,by rw[hk g (by simp[Value.ownBlock])];exact h4,h5⟩⟩
theorem ownsAt.lt {w:World}{base:Nat}{e:TypeId}{sz:Nat}{v:Value}{n:Nat}{xs:List Value}(h:ownsAt w base e sz v n xs):∀ g,v.ownBlock=some g->base<=g/\g<w.heap.size:=by
 obtain⟨h1,h2 | ⟨g,o,cap,cur,rfl,h3,h4,h5⟩⟩:=h
 ·intro g hg;rw[h2.1] at hg;cases hg
 ·intro g' hg
  simp[Value.ownBlock] at hg
  subst hg
  exact⟨h3,xam h4⟩
theorem ownsAt.alloc {w:World}{base:Nat}{e:TypeId}{sz:Nat}{v:Value}{n:Nat}{xs:List Value}(h:ownsAt w base e sz v n xs)(o:Obj):ownsAt (w.alloc o) base e sz v n xs:=
 h.keep fun g hg=>(xai w o).block _ (h.lt g hg).2
theorem ownsAt.form {w:World}{base:Nat}{e:TypeId}{sz:Nat}{v:Value}{n:Nat}{xs:List Value}(h:ownsAt w base e sz v n xs):∃ a cap,v=.slice a n cap/\n<=cap/\cap<=maxLen:=by
 obtain⟨-,⟨rfl,rfl⟩ | ⟨g,o,cap,cur,rfl,-,-,h1,h2,-⟩⟩:=h
 ·exact⟨none,0,rfl,qzC _,by unfold maxLen;omega⟩
 ·exact⟨_,cap,rfl,h1,h2⟩
theorem xeb {g:Nat}{t:TypeId}:∀ (vs:List Value) (o:Nat) (w:World) (cur:Array Value),w.heap[g]?=some (.cells cur t (0,0))->o+vs.length<=cur.size->(w.setCells g o vs).heap[g]?=some (.cells (cur.toList.take o++vs++cur.toList.drop (o+vs.length)).toArray t (0,0))
 | [],o,w,cur,h,hl=>by simpa [World.setCells] using h
 | v :: vs,o,w,cur,h,hl=>by
  simp only[List.length_cons] at hl;unfold World.setCells;rw[xeb vs (o+1) _ _ (xae h v) (by simp;omega)]
  congr 3
  apply List.ext_getElem?
  intro i;simp only[Array.toList_setIfInBounds,List.length_cons,List.getElem?_append,List.length_append,List.length_take,List.length_set,Array.length_toList,List.getElem?_take,List.getElem?_drop,List.getElem?_set,List.getElem?_cons];have e1:min (o+1) cur.size=o+1:=by omega
  have e2:min o cur.size=o:=by omega
  rw[e1,e2]
  by_cases h1:i<o
  ·simp[h1,show i<o+1 by omega,show i<o+1+vs.length by omega,show i<o+(vs.length+1) by omega,show ¬ o=i by omega]
  ·by_cases h2:i=o
   ·subst h2
    simp[show i<i+1+vs.length by omega,show i<cur.size by omega]
   ·by_cases h3:i<o+1+vs.length
    ·obtain⟨d,rfl⟩:∃ d,i=o+1+d:=⟨i-(o+1),by omega⟩
     simp[show ¬ (o+1+d<o) by omega,h3,show o+1+d<o+(vs.length+1) by omega,show ¬ (o+1+d<o+1) by omega,show o+1+d-(o+1)=d by omega,show o+1+d-o=d+1 by omega]
    ·have h4:¬ (i<o+(vs.length+1)):=by omega
     simp only[h3,h4,if_false,show ¬ i<o by omega]
     rw[show o+1+vs.length+(i-(o+1+vs.length))=i by omega,show o+(vs.length+1)+(i-(o+(vs.length+1)))=i by omega]
     simp[show ¬ o=i by omega]
theorem xb6 (g:Nat):∀ (vs:List Value) (o:Nat) (w:World),Below g w (w.setCells g o vs)
 | [],o,w=>Below.refl _ _
 | v :: vs,o,w=>by
  unfold World.setCells
  exact ((Below.refl g w).setCell (qzC g) _).trans (xb6 g vs (o+1) _)
theorem xe3 {w:World}{base base':Nat}{e:TypeId}{sz:Nat}{v:Value}{n:Nat}{xs:List Value}(h:w.ownsRow base' e sz v n xs)(hb:base<=base'):ownsAt w base e sz v n xs:=by
 obtain⟨h1,h2 | ⟨g,c,cur,e,h3,h4,h5,h6,h7,h8⟩⟩:=h
 ·exact⟨h1,Or.inl h2⟩
 ·exact⟨h1,Or.inr ⟨g,0,c,cur,e,by omega,h4,h5,h6,by omega,by simpa using h8⟩⟩
theorem xcQ {w:World}(T ty e:TypeId)(z:Value)(sz bytes:Nat)(hT:Tryz.prog.underlying T=some (.slice e))(hI:(Tryz.prog.info? e).map (fun i=>(i.zero,i.size,i.bytes))=some (some z,sz,bytes))(hzs:z.cells.size=sz)(hsz:0<sz)
  (base n:Nat) (v:Value) (xs:List Value) (hown:ownsAt w base e sz v n xs) (Bb:Nat) (news:List Value) (hl:news.length=sz) (hX:w.heap[Bb]?=some (.cells news.toArray e (0,0))) (h1:∀ u∈news,u.oneCell'=true) (h63:n+1<=maxLen) (hby:(n+1)*bytes<=140737488355328) (hbase:base<=w.heap.size) :
  ∃ v' w',(Builtin.append_ #[T,T] ty #[v,.slice (some ⟨Bb,0,none⟩) 1 1]).run Tryz.prog w=.ok v' w'/\ownsAt w' base e sz v' (n+1) (xs++news)/\(v'.ownBlock=v.ownBlock\/∃ g,v'.ownBlock=some g/\w.heap.size<=g)/\Below base w w'/\(∀ b,b<w.heap.size->some b≠v.ownBlock->w'.heap[b]?=w.heap[b]?):=by
 obtain⟨i0,hi,hz0,hz1,hz2⟩:=xbu hI;have hnews:∀ j u,news[j]?=some u->w.cell? ((⟨Bb,0,none⟩:Addr).add j)=some u:=fun j u hu=>by rw[Addr.add_lit,Nat.zero_add,qzB hX];simpa using hu
 obtain⟨hxl,⟨rfl,rfl⟩ | ⟨g,o,cap,cur,rfl,h3,h4,h5,h6,h7,h8⟩⟩:=id hown
 ·obtain⟨v',w',hrun,r1,r2,_⟩:=run_append_own (P:=Tryz.prog) w w.heap.size T ty e i0 z sz bytes hT hi hz0 hz1 hz2 hzs hsz (.slice none 0 0) 0 [] (World.ownsRow_nil w _ e sz) ⟨Bb,0,none⟩ 1 1 news (by omega) hnews h1 h63 hby (qzC _)
  have hxs:xs=[]:=List.eq_nil_of_length_eq_zero (by simpa using hxl)
  subst hxs;refine⟨v',w',hrun,xe3 (by simpa using r1) hbase,Or.inr ?_,?_,fun b hb hne=>r2.block b hb hne⟩
  ·obtain⟨-,h | ⟨g,c,cur,e,h3,h4,-⟩⟩:=r1
   ·omega
   ·exact⟨g,by rw[e];rfl,h3⟩
  ·exact (Below.refl _ _).grown r2 hbase fun k hk=>by cases hk
 ·by_cases hr:n+1<=cap
  ·have hcs:cur.toList.length=cur.size:=by simp
   have hon:o+n*sz+news.length<=cur.size:=by
    have:(n+1)*sz<=cap*sz:=Nat.mul_le_mul_right _ hr;rw[Nat.add_mul] at this
    omega
   have hrun:=run_append_room_cells (P:=Tryz.prog) w T ty e i0 hT hi g o n cap ⟨Bb,0,none⟩ 1 1 news (by rw[hz1];omega) hnews h1 hr (fun j hj=>by rw[hz1,qzB h4];simp;omega) (fun j hj=>by unfold World.frozen?;simp[h4])
   rw[hz1] at hrun;have hrow:=xeb news (o+n*sz) w cur h4 hon;refine⟨_,_,hrun,⟨by rw[List.length_append,hxl,hl,Nat.add_mul];omega,Or.inr ⟨g,o,cap,_,rfl,h3,hrow,hr,h6,?_,?_⟩⟩,Or.inl rfl,?_,fun b hb hne=>xaF (fun e=>hne (by rw[e];rfl)) _ _ _⟩
   ·simp
    omega
   ·rw[← h8]
    apply List.ext_getElem?
    intro i;simp only[List.getElem?_take,List.getElem?_drop,List.getElem?_append,List.length_append,List.length_take,List.length_drop,hcs];have e1:min (o+n*sz) cur.size=o+n*sz:=by omega
    have e2:min (n*sz) (cur.size-o)=n*sz:=by omega
    rw[e1,e2];have e3:(n+1)*sz=n*sz+sz:=by rw[Nat.add_mul];omega
    rw[e3]
    by_cases g1:i<n*sz
    ·simp[g1,show i<n*sz+sz by omega,show o+i<o+n*sz by omega,show o+i<o+n*sz+news.length by omega]
    ·by_cases g2:i<n*sz+sz
     ·simp[g1,g2,show ¬ (o+i<o+n*sz) by omega,show o+i<o+n*sz+news.length by omega,show o+i-(o+n*sz)=i-n*sz by omega]
     ·simp[g1,g2]
      omega
   ·refine⟨?_,?_,?_,?_,fun k hk=>xaF (by omega) _ _ _⟩
    ·exact (xb6 _ _ _ _).os
    ·exact (xb6 _ _ _ _).tape
    ·exact (xb6 _ _ _ _).output
    ·rw[xbq];exact qzC _
  ·obtain⟨v',w',hrun,r1,r2⟩:=run_append_arg_grows (P:=Tryz.prog) w T ty e i0 z sz bytes hT hi hz0 hz1 hz2 hzs hsz ⟨g,o,none⟩ n cap xs hxl (fun j u hu=>by
    rw[Addr.add_lit,qzB h4];rw[← h8,List.getElem?_take] at hu
    split at hu
    ·rw[List.getElem?_drop] at hu;simpa using hu
    ·cases hu) ⟨Bb,0,none⟩ 1 1 news (by omega) hnews (by omega) h63 hby
   refine⟨v',w',hrun,xe3 r1 hbase,Or.inr ?_,?_,fun b hb hne=>r2.block b hb (by simp)⟩
   ·obtain⟨-,h | ⟨g,c,cur,e,h3,h4,-⟩⟩:=r1
    ·omega
    ·exact⟨g,by rw[e];rfl,h3⟩
   ·exact (Below.refl _ _).grown r2 hbase fun k hk=>by cases hk
theorem xbS {ops:Array Oper}{rest:List Oper}{o:Oper}{a:Act}{w:World}{Q:Exit->Act->World->Prop}(hgd:o.guard=none)(s x:Operand)(T e:TypeId)(z:Value)(sz bytes:Nat)
  (hop:o.op=Op.call { callee:=Callee.builtin Builtin.append,args:=#[s,x],argTypes:=#[T,T] }) (hT:Tryz.prog.underlying T=some (.slice e)) (hI:(Tryz.prog.info? e).map (fun i=>(i.zero,i.size,i.bytes))=some (some z,sz,bytes)) (hzs:z.cells.size=sz) (hsz:0<sz)
  (base n:Nat) (v:Value) (xs:List Value) (hs:a.eval s=v) (hown:ownsAt w base e sz v n xs) (Bb:Nat) (hx:a.eval x=.slice (some ⟨Bb,0,none⟩) 1 1) (news:List Value) (hl:news.length=sz) (hX:w.heap[Bb]?=some (.cells news.toArray e (0,0))) (h1:∀ u∈news,u.oneCell'=true) (h63:n+1<=maxLen) (hby:(n+1)*bytes<=140737488355328) (hbase:base<=w.heap.size)
  (hK:∀ a' cap' w',ownsAt w' base e sz (.slice a' (n+1) cap') (n+1) (xs++news)->((Value.slice a' (n+1) cap').ownBlock=v.ownBlock\/∃ g,(Value.slice a' (n+1) cap').ownBlock=some g/\w.heap.size<=g)->Below base w w'->(∀ b,b<w.heap.size->some b≠v.ownBlock->w'.heap[b]?=w.heap[b]?)->wpList Tryz.prog ops Q rest (a.put o.dst (.slice a' (n+1) cap')) w') :
  wpList Tryz.prog ops Q (o :: rest) a w:=by
 refine wpList_plain hgd fun K hKK=>?_
 obtain⟨v',w',hrun,r1,r2,r3,r4⟩:=xcQ T o.type e z sz bytes hT hI hzs hsz base n v xs hown Bb news hl hX h1 h63 hby hbase;obtain⟨a',cap',rfl,-⟩:=r1.form;unfold Oper.wp
 simp[execOp,hop,resolve,invoke,builtin,hs,hx,hrun,Result.andThen]
 exact hKK _ _ (hK a' cap' w' r1 r2 r3 r4)
def xcq:List (Int × Int)->List Value
 | []=>[]
 | p :: q=>.int .i64 p.1 :: .int .i64 p.2 :: xcq q
theorem xh0:∀ q,(xcq q).length=q.length*2
 | []=>rfl
 | p :: q=>by simp[xcq,xh0 q];omega
theorem xfl:∀ q r,xcq (q++r)=xcq q++xcq r
 | [],r=>rfl
 | p :: q,r=>by simp[xcq,xfl q r]
structure LedF (w w':World)(bl:Nat)(v v':Value):Prop where
 bel:Below bl w w'
 blk:∀ b,b<w.heap.size->b≠bl->some b≠v.ownBlock->w'.heap[b]?=w.heap[b]?
 own:v'.ownBlock=v.ownBlock\/∃ g,v'.ownBlock=some g/\w.heap.size<=g
theorem LedF.trans {w w' w'':World}{bl:Nat}{v v' v'':Value}(h:LedF w w' bl v v')(k:LedF w' w'' bl v' v''):LedF w w'' bl v v'':=by
 refine⟨h.bel.trans k.bel,fun b hb h1 h2=>?_,?_⟩
 ·rw[k.blk b (qzE hb h.bel.size) h1 ?_,h.blk b hb h1 h2]
  rcases h.own with e | ⟨g,e,hg⟩
  ·rw[e];exact h2
  ·rw[e];intro e';cases e';omega
 ·rcases k.own with e | ⟨g,e,hg⟩
  ·rw[e];exact h.own
  ·exact Or.inr ⟨g,e,qzD h.bel.size hg⟩
theorem LedF.of_below {w w':World}(bl:Nat)(v:Value)(hb:Below w.heap.size w w')(hbl:bl<=w.heap.size):LedF w w' bl v v:=⟨hb.mono hbl,fun b h _ _=>hb.block b h,Or.inl rfl⟩
theorem xaa {w w':World}{B:Nat}{o:Obj}(h:w.heap[B]?=some o)(hb:Below w.heap.size w w'):w'.heap[B]?=some o:=by rw[hb.block _ (xam h)];exact h
abbrev IV (x:QI):Value:=.agg #[.int .i64 x.op,.int .i64 x.a,.int .i64 x.b,.int .i64 x.c,.string x.name]
theorem xal {n:Int}(h1:-9223372036854775808<=n)(h2:n<=9223372036854775807):IntKind.i64.wrap n=n:=by rw[IntKind.wrap_i64];omega
def xeP (x:QI)(p n:Int):Int × Int:=if n<(xaO x p).need\/x.op=17/\n≠1 then (0,8) else if 12<n+(xaO x p).more then (0,4) else (n+(xaO x p).more,0)
def xhW (h:List Int):List Value:=h.map fun x=>.int .i64 x
abbrev xew (h:List Int):Obj:=.cells (xhW h).toArray 3 (0,0)
theorem xfj {w:World}{g:Nat}{h:List Int}(hg:w.heap[g]?=some (xew h)){k:Nat}(hk:k<h.length):w.cell? ⟨g,k,none⟩=some (.int .i64 (h.getD k 0)):=by
 rw[qzB hg];simp[xhW,hk]
theorem xe2 {w:World}{g:Nat}{h:List Int}(hg:w.heap[g]?=some (xew h))(k:Nat):w.frozen? ⟨g,k,none⟩=false:=by unfold World.frozen?;simp[hg]
theorem xfi {w:World}{g:Nat}{h:List Int}(hg:w.heap[g]?=some (xew h))(k:Nat)(v:Int):(w.setCell ⟨g,k,none⟩ (.int .i64 v)).heap[g]?=some (xew (h.set k v)):=by
 rw[xae hg];simp[xhW,List.map_set]
structure ArrF (w w':World)(lo bl gh:Nat)(v v':Value):Prop where
 bel:Below lo w w'
 blk:∀ b,b<w.heap.size->b≠bl->b≠gh->some b≠v.ownBlock->w'.heap[b]?=w.heap[b]?
 own:v'.ownBlock=v.ownBlock\/∃ g,v'.ownBlock=some g/\w.heap.size<=g
abbrev FV (f:Int × Int):Value:=.agg #[.int .i64 f.1,.int .i64 f.2]
theorem xgW (n:Nat)(hb:n*8<=140737488351232)(w:World):(Instr.makeSlice 47 (.int .i64 (n:Int)) (.int .i64 (n:Int))).run Tryz.prog w=.ok (.slice (some ⟨w.heap.size,0,none⟩) n n) (w.alloc (xew (List.replicate n 0))):=by
 obtain⟨i0,hi,hz0,hz1,hz2⟩:=xbu xsm;have:=run_make (P:=Tryz.prog) w 47 3 i0 _ Tryz.underlying47 hi hz0 .i64 .i64 n n (by omega) (by omega) (by rw[hz2];omega) (by omega)
 rw[this,hz1]
 simp[madeCells,Value.cells,xew,xhW]
 congr 2
 apply Array.ext
 ·simp
 ·intro i h1 h2
  simp[Nat.mod_one]
theorem xp8 {n j:Nat}(h:j<n):(List.replicate j (-1:Int)++List.replicate (n-j) 0).set j (-1)=List.replicate (j+1) (-1)++List.replicate (n-(j+1)) 0:=by
 apply List.ext_getElem?
 intro i;simp only[List.getElem?_set,List.getElem?_append,List.length_append,List.length_replicate,List.getElem?_replicate]
 by_cases h1:i=j
 ·subst h1
  simp
  omega
 ·by_cases h2:i<j
  ·simp[h2,show i<j+1 by omega,show ¬ j=i by omega]
  ·simp only[show ¬ j=i by omega,if_false,h2,show ¬ (i<j+1) by omega]
   by_cases h3:i<n
   ·rw[if_pos (by omega),if_pos (by omega)]
   ·rw[if_neg (by omega),if_neg (by omega)]
theorem ownsAt.head {w:World}{base:Nat}{e:TypeId}{a:Option Addr}{cap:Nat}{p:Int × Int}{q:List (Int × Int)}(h:ownsAt w base e 2 (.slice a (q.length+1) cap) (q.length+1) (xcq (p :: q))):∃ g o,a=some ⟨g,o,none⟩/\w.cell? ⟨g,o,none⟩=some (.int .i64 p.1)/\w.cell? ⟨g,o+1,none⟩=some (.int .i64 p.2)/\q.length+1<=cap/\cap<=maxLen/\
  (∀ o',(o'=o+2\/cap=1/\o'=o)->ownsAt w base e 2 (.slice (some ⟨g,o',none⟩) q.length (cap-1)) q.length (xcq q)):=by
 obtain⟨h1,⟨e,-⟩ | ⟨g,o,cap',cur,e,h3,h4,h5,h6,h7,h8⟩⟩:=h
 ·cases e
 ·cases e
  have hl:2*(q.length+1)<=cap*2:=by omega
  have hcell:∀ j,j<(q.length+1)*2->w.cell? ⟨g,o+j,none⟩=(xcq (p :: q))[j]?:=fun j hj=>by
   rw[← h8,qzB h4,List.getElem?_take,if_pos hj,List.getElem?_drop]
   simp
  refine⟨g,o,rfl,?_,?_,h5,h6,fun o' ho'=>⟨by rw[xh0],Or.inr ⟨g,o',cap-1,cur,rfl,h3,h4,by omega,by unfold maxLen at *;omega,by omega,?_⟩⟩⟩
  ·have:=hcell 0 (by omega);simpa [xcq] using this
  ·have:=hcell 1 (by omega);simpa [xcq] using this
  ·rcases ho' with rfl | ⟨hc,rfl⟩
   ·apply List.ext_getElem?
    intro i;have e1:(xcq q)[i]?=(xcq (p :: q))[i+2]?:=by simp[xcq]
    rw[e1,← h8];simp only[List.getElem?_take,List.getElem?_drop];rw[show o+2+i=o+(i+2) by omega]
    by_cases h9:i<q.length*2
    ·rw[if_pos h9,if_pos (by omega)]
    ·rw[if_neg h9,if_neg (by omega)]
   ·have:q.length=0:=by omega
    obtain rfl:=List.eq_nil_of_length_eq_zero this
    simp[xcq]
theorem ArrF.below {w w':World}{lo bl gh B:Nat}{v v':Value}(h:ArrF w w' lo bl gh v v')(h1:B<=bl)(h2:B<=gh)(h3:∀ g,v.ownBlock=some g->B<=g)(h4:B<=w.heap.size):Below B w w':=
 ⟨h.bel.os,h.bel.tape,h.bel.output,h.bel.size,fun b hb=>h.blk b (by omega) (by omega) (by omega) fun e=>by have:=h3 b e.symm;omega⟩
def xpV (w:World)(code:List QI)(e:Ending)(w':World):Prop:=
 Below w.heap.size w w'/\(((xaN code).2.1=0/\∃ g,e=.returned (.tuple #[.slice (some ⟨g,0,none⟩) code.length code.length,FV (0,0)])/\w'.heap[g]?=some (xew (xaN code).1)/\w.heap.size<=g)\/
  ((xaN code).2.1≠0/\e=.returned (.tuple #[.slice none 0 0,FV (xaN code).2])))
def xcY (s:Int)(_:Nat)(x:QC):Int × Bool:=(IntKind.i64.wrap (s+x.slots),true)
def xaS (xs:List QC)(c:Int):Int:=upE xcY xs (xs.length+1) c 0
theorem xgY {xs:List QC}(ho:xcC xs)(hb:xs.length*56<=140737488351232):∀ (n:Nat) (c s:Int),0<=s->s+6*n<=9000000000000000000->upE xcY xs n c s=upE xdr xs n c s
 | 0,c,s,h,_=>rfl
 | n+1,c,s,h,h2=>by
  unfold upE
  cases hx:xa8 xs c with
  | none=>rfl
  | some x=>
   obtain⟨k,rfl,hk⟩:=xa5 hx;obtain⟨h3,h4⟩:=ho k x hk;have e:IntKind.i64.wrap (s+x.slots)=s+x.slots:=xal (by omega) (by omega)
   simp only[xcY,xdr,if_true,e]
   exact xgY ho hb n x.super (s+x.slots) (by omega) (by omega)
theorem xpF {xs:List QC}(ho:xcC xs)(hb:xs.length*56<=140737488351232)(c:Int):xaS xs c=xbw xs c:=xgY ho hb _ c 0 (by omega) (by omega)
def SlRW {P:Nat->Prop}(w0:World)(cv:Value)(xs:List QC)(j:Nat)(s:Int)(w':World):Prop:=
 Below w0.heap.size w0 w'/\xag P w' cv xs/\w'.heap[w0.heap.size+1]?=some (.cells #[.int .i64 s] 3 (0,0))/\w'.cell? ⟨w0.heap.size,0,none⟩=some cv
def inR (n low high:Int):Bool:=decide (low<=n/\n<=high)
def xnV (s:ByteArray):Bool:=s.toList.isEmpty
def rnB (x:QI):Bool:=if x.op=14 then xdz x.name else xnV x.name
def raE (S n:Int)(m:QM)(x:QI):Bool:=
 if x.op=2 then inR x.a 0 (m.args-1)
 else if x.op=3\/x.op=11 then inR x.a 0 (m.temps-1)
 else if x.op=4\/x.op=12 then inR x.a 0 (IntKind.i64.wrap (S-1))
 else if x.op=15\/x.op=16 then inR x.a 0 ((m.code.length:Int)-1)
 else if x.op=14 then inR x.a 0 4
 else if x.op=5 then inR x.a (-1073741824) 1073741824
 else if x.op=13 then decide (x.a=0) || inR x.a 4 (n-1)
 else decide (x.a=0)
def xfq (S n:Int)(m:QM)(x:QI):Int:=
 if inR x.op 1 17=false then 1 else if raE S n m x=false then 3 else if rnB x=false\/x.b≠0\/x.c≠0 then 2 else 0
def wmE (n c:Int)(m:QM):Int:=
 if inR c 0 (n-1)=false then 6 else if xdz m.name=false then 7 else if inR m.args 0 4=false\/inR m.temps 0 6=false then 3 else if m.prim≠0 then 1 else if inR m.code.length 1 60=false then 5 else 0
theorem xh4 {a0 a1 a2 a3:Addr}{v0 v1 v2 v3:Value}{W w w':World}(h:w.cell? a0=some v0/\w.cell? a1=some v1/\w.cell? a2=some v2/\w.cell? a3=some v3/\Below W.heap.size W w)(hb:Below w.heap.size w w'):w'.cell? a0=some v0/\w'.cell? a1=some v1/\w'.cell? a2=some v2/\w'.cell? a3=some v3/\Below W.heap.size W w':=
 ⟨qzA hb h.1,qzA hb h.2.1,qzA hb h.2.2.1,qzA hb h.2.2.2.1,xaf h.2.2.2.2 hb⟩
def xkV (f:QI->Int):Nat->List QI->Option (Int × Int)
 | _,[]=>none
 | k,x :: r=>if f x≠0 then some (f x,(k:Int)) else xkV f (k+1) r
theorem xoT {f:QI->Int}:∀ {l:List QI} {k j:Nat} {x:QI},l[j]?=some x->f x≠0->(∀ (i:Nat) y,i<j->l[i]?=some y->f y=0)->xkV f k l=some (f x,((k+j:Nat):Int))
 | [],k,j,x,h,_,_=>by simp at h
 | z :: r,k,0,x,h,hx,_=>by
  simp at h
  subst h
  simp[xkV,hx]
 | z :: r,k,j+1,x,h,hx,hp=>by
  have h0:f z=0:=hp 0 z (by omega) rfl
  unfold xkV;rw[if_neg (by simp[h0]),xoT (l:=r) (k:=k+1) (j:=j) (by simpa using h) hx fun i y hi hy=>hp (i+1) y (by omega) (by simpa using hy)]
  congr 3
  omega
theorem xgs {f:QI->Int}:∀ {l:List QI} {k:Nat},(∀ (i:Nat) y,l[i]?=some y->f y=0)->xkV f k l=none
 | [],k,_=>rfl
 | z :: r,k,hp=>by
  unfold xkV;rw[if_neg (by simp[hp 0 z rfl])]
  exact xgs fun i y hy=>hp (i+1) y (by simpa using hy)
theorem xgn {f:QI->Int}:∀ {l:List QI} {k:Nat},xkV f k l=none->∀ x∈l,f x=0
 | [],k,_,x,hx=>by simp at hx
 | z :: r,k,h,x,hx=>by
  unfold xkV at h
  by_cases h0:f z=0
  ·rw[if_neg (by simp[h0])] at h
   rcases List.mem_cons.1 hx with rfl | hx
   ·exact h0
   ·exact xgn h x hx
  ·rw[if_pos h0] at h;cases h
def xce (S n c:Int)(m:QM):Int × Int:=
 if wmE n c m≠0 then (wmE n c m,0) else match xkV (xfq S n m) 0 m.code with
  | some f=>f
  | none=>(xaN m.code).2
theorem xeU {S n:Int}{m:QM}{x:QI}(h:xfq S n m x=0):x.op=14->0<=x.a/\x.a<=4:=fun h14=>by
 unfold xfq at h
 split at h
 ·cases h
 ·split at h
  ·cases h
  ·rename_i hra
   simp[raE,h14,inR] at hra
   exact hra
theorem xiN {n c:Int}{m:QM}(h:wmE n c m=0):(0<=m.args/\m.args<=4)/\(0<=m.temps/\m.temps<=6)/\1<=m.code.length/\m.code.length<=60/\0<=c/\c<=n-1:=by
 unfold wmE at h
 (repeat' split at h)<;>first | (exfalso;omega) | skip
 rename_i h1 h2 h3 h4 h5
 simp[inR] at h1 h3 h5
 omega
theorem xsF {w:World}{B:Nat}{x y:Value}{t:TypeId}(h:w.heap[B]?=some (.cells #[x,y] t (0,0))):(∀ q,w.cell? ⟨B,q,none⟩=(#[x,y]:Array Value)[q]?)/\(∀ o,w.frozen? ⟨B,o,none⟩=false):=
 ⟨fun q=>by rw[qzB h],fun o=>by unfold World.frozen?;simp[h]⟩
theorem xmL {w:World}{B:Nat}{x y:Value}{t:TypeId}(h:w.heap[B]?=some (.cells #[x,y] t (0,0)))(u v:Value)(z:Obj):(((w.setCell ⟨B,0,none⟩ u).setCell ⟨B,1,none⟩ v).alloc z).cell? ⟨B,0,none⟩=some u/\(((w.setCell ⟨B,0,none⟩ u).setCell ⟨B,1,none⟩ v).alloc z).cell? ⟨B,1,none⟩=some v:=by
 have h2:((w.setCell ⟨B,0,none⟩ u).setCell ⟨B,1,none⟩ v).heap[B]?=some (.cells #[u,v] t (0,0)):=by rw[xae (xae h _) _];rfl
 have h3:=xaa h2 (xai _ z)
 exact⟨by rw[qzB h3];rfl,by rw[qzB h3];rfl⟩
theorem xjA {code:List QI}:∀ (g:Nat) (h:List Int) (q:List (Int × Int)),(xjM code g h q).2.1=0->(xjM code g h q).2=(0,0)
 | 0,h,q,_=>rfl
 | g+1,h,[],_=>rfl
 | g+1,h,p :: q,he=>by
  unfold xjM at he ⊢
  cases hst:xc8 code h p with
  | inl f=>rw[hst] at he;exact absurd he (xeZ hst)
  | inr r=>
   obtain⟨h',new⟩:=r;rw[hst] at he
   exact xjA g h' (q++new) he
def xbB {α:Type}(f:Nat->α->Int):Nat->List α->Int
 | _,[]=>0
 | k,x :: r=>if f k x≠0 then f k x else xbB f (k+1) r
theorem xgN {α:Type}{f:Nat->α->Int}:∀ {l:List α} {k j:Nat} {x:α},l[j]?=some x->f (k+j) x≠0->(∀ i y,i<j->l[i]?=some y->f (k+i) y=0)->xbB f k l=f (k+j) x
 | a :: r,k,0,x,hx,h,_=>by
  simp at hx;subst hx
  simp only[Nat.add_zero] at h ⊢;unfold xbB;rw[if_pos h]
 | a :: r,k,j+1,x,hx,h,hn=>by
  have h0:=hn 0 a (by omega) rfl
  simp only[Nat.add_zero] at h0;unfold xbB;rw[if_neg (by simp[h0]),xgN (k:=k+1) (j:=j) (x:=x) (by simpa using hx) (by rw[show k+1+j=k+(j+1) by omega];exact h) fun i y hi hy=>by rw[show k+1+i=k+(i+1) by omega];exact hn (i+1) y (by omega) (by simpa using hy)]
  rw[show k+1+j=k+(j+1) by omega]
theorem xdM {α:Type}{f:Nat->α->Int}:∀ {l:List α} {k:Nat},(∀ i y,l[i]?=some y->f (k+i) y=0)->xbB f k l=0
 | [],_,_=>rfl
 | a :: r,k,h=>by
  have h0:=h 0 a rfl;simp only[Nat.add_zero] at h0;unfold xbB;rw[if_neg (by simp[h0])]
  exact xdM fun i y hy=>by rw[show k+1+i=k+(i+1) by omega];exact h (i+1) y (by simpa using hy)
theorem xcx {α:Type}{f:Nat->α->Int}{l:List α}(h:∀ i y,l[i]?=some y->f i y=0):xbB f 0 l=0:=xdM fun i y hy=>by simpa using h i y hy
theorem xdZ {α:Type}{f:Nat->α->Int}:∀ {l:List α} {k:Nat},xbB f k l=0->∀ i y,l[i]?=some y->f (k+i) y=0
 | a :: r,k,h,i,y,hy=>by
  unfold xbB at h
  split at h
  ·rename_i h1;exact absurd h h1
  ·rename_i h1
   cases i with
   | zero=>simp at hy;subst hy;simpa using h1
   | succ i=>rw[show k+(i+1)=k+1+i by omega];exact xdZ h i y (by simpa using hy)
theorem xbH {α:Type}{f:Nat->α->Int}{l:List α}(h:xbB f 0 l=0):∀ i y,l[i]?=some y->f i y=0:=fun i y hy=>by
 have:=xdZ h i y hy
 simpa using this
def xbx (n c:Int):Bool:=decide (c=0\/4<=c/\c<n)
def xm4 (xs:List QC)(k:Nat)(name:ByteArray):Bool:=(xs.take k).any fun d=>eqN d.name name
theorem xro {xs:List QC}{k:Nat}{name:ByteArray}(h:∀ i d,i<k->xs[i]?=some d->eqN d.name name=false):xm4 xs k name=false:=by
 unfold xm4;rw[List.any_eq_false];intro d hd;obtain⟨i,hi⟩:=List.getElem?_of_mem hd;rw[List.getElem?_take] at hi
 split at hi
 ·rename_i hk;have:=h i d hk hi
  simp[this]
 ·cases hi
def rcE (xs:List QC)(k:Nat)(x:QC):Int:=
 if xdz x.name=false then 7 else
 match xo1[k]? with
 | some y=>if eqN x.name y.name=false then 7 else if xm4 xs k x.name=true then 7 else if x.super≠y.super then 3 else if x.slots<0\/0<x.slots then 3 else 0
 | none=>if xm4 xs k x.name=true then 7 else if xbx k x.super=false then 3 else if x.slots<0\/6<x.slots then 3 else 0
def xmS (k:Nat)(m:QM):Bool:=xrh.any fun p=>decide (k=3) && eqN p.name m.name && decide (p.prim=m.prim) && decide (m.args=1) && decide (m.temps=0) && decide (m.code.length=0)
def xhH (ms:List QM)(i:Nat)(m:QM):Bool:=match i with
 | 0=>true
 | i+1=>match ms[i]? with
  | some p=>ltN p.name m.name
  | none=>true
def rmE (X:QW)(k:Nat)(ms:List QM)(i:Nat)(m:QM):Int:=
 if xhH ms i m=false then 7 else if xmS k m=true then 0 else (xce (xaS X.cz k) X.cz.length k m).1
def rkE (X:QW)(k:Nat)(x:QC):Int:=if 6<xaS X.cz k then 3 else if 8<x.mz.length then 5 else xbB (rmE X k x.mz) 0 x.mz
def xdp (k n h:Int):Int:=
 if k<0\/4<k then 1
 else if k<3 then (if n=0 then 0 else 2)
 else if k=3 then (if n < -1073741824\/1073741824<n then 3 else 0)
 else (if n<0\/h<=n then 6 else 0)
def xaM (h:Int)(v:QV):Int:=xdp v.k v.n h
def roE (X:QW)(_:Nat)(o:QO):Int:=
 if xbx X.cz.length o.cls=false\/(o.slots.length:Int)≠xaS X.cz o.cls then 8 else xbB (fun _ v=>xaM X.heap.length v) 0 o.slots
def xau (X:QW):Int:=
 if X.cz.length<4\/12<X.cz.length\/60<X.heap.length then 5
 else if X.ez<0\/1073741824<X.ez then 3
 else if xbB (rcE X.cz) 0 X.cz≠0 then xbB (rcE X.cz) 0 X.cz
 else if xbB (rkE X) 0 X.cz≠0 then xbB (rkE X) 0 X.cz
 else xbB (roE X) 0 X.heap
structure SizeOk (X:QW):Prop where
 few:4<=X.cz.length
 many:X.cz.length<=12
 heap:X.heap.length<=60
 ep0:0<=X.ez
 ep1:X.ez<=1073741824
def ClsOk (X:QW)(j:Nat):Prop:=∀ i x,i<j->X.cz[i]?=some x->rcE X.cz i x=0
def xnl (X:QW)(j:Nat):Prop:=∀ i x,i<j->X.cz[i]?=some x->rkE X i x=0
def xsh (X:QW)(j:Nat):Prop:=∀ i x,i<j->X.heap[i]?=some x->roE X i x=0
theorem xkw {X:QW}(h:SizeOk X):xau X=if xbB (rcE X.cz) 0 X.cz≠0 then xbB (rcE X.cz) 0 X.cz else if xbB (rkE X) 0 X.cz≠0 then xbB (rkE X) 0 X.cz else xbB (roE X) 0 X.heap:=by
 obtain⟨h1,h2,h3,h4,h5⟩:=h;unfold xau;rw[if_neg (by omega),if_neg (by omega)]
theorem xoQ {X:QW}(h:ClsOk X X.cz.length):xbB (rcE X.cz) 0 X.cz=0:=xcx fun i y hy=>h i y (xad hy) hy
theorem xml {X:QW}(h:xnl X X.cz.length):xbB (rkE X) 0 X.cz=0:=xcx fun i y hy=>h i y (xad hy) hy
theorem xiv {X:QW}(h:SizeOk X)(h1:ClsOk X X.cz.length)(h2:xnl X X.cz.length)(h3:xsh X X.heap.length):xau X=0:=by
 rw[xkw h,if_neg (by rw[xoQ h1];simp),if_neg (by rw[xml h2];simp)]
 exact xcx fun i y hy=>h3 i y (xad hy) hy
theorem xbX {X:QW}(h:xau X=0):SizeOk X/\ClsOk X X.cz.length/\xnl X X.cz.length/\xsh X X.heap.length:=by
 unfold xau at h
 split at h
 ·cases h
 rename_i a1
 split at h
 ·cases h
 rename_i a2
 split at h
 ·rename_i a3;exact absurd h a3
 rename_i a3
 split at h
 ·rename_i a4;exact absurd h a4
 rename_i a4;have b3:=xbH (Decidable.of_not_not a3);have b4:=xbH (Decidable.of_not_not a4);have b5:=xbH h
 exact⟨⟨by omega,by omega,by omega,by omega,by omega⟩,fun i x _ hx=>b3 i x hx,fun i x _ hx=>b4 i x hx,fun i x _ hx=>b5 i x hx⟩
end Go.Proofs.YtbafokihegegiaaGreatDoor
