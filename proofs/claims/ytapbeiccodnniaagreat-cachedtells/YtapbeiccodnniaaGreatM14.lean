/- A part. -/
import Derived.Test.YtapbeiccodnniaaGreatM10
namespace Go.Proofs.YtapbeiccodnniaaGreat
open Go.ChangeShapes Go.WideShapes Go.ChangeAt Go.RowKit
set_option linter.unusedSimpArgs false
set_option linter.unusedVariables false
set_option maxHeartbeats 8000000
set_option maxRecDepth 8000
theorem xlP {σ:Type}{P M:Nat->Prop}(vis:σ->Nat->QC->σ × Bool)(R:Nat->σ->World->Prop)(p1 p2:Value)(xs:List QC)(c:Int)(s0:σ)(cv hv:Value)(ep:Int)(w:World)(hh:xai P w cv xs)(hhv:∃ a n c,hv=.slice a n c)(hR:R 0 s0 w)(hM:∀ b,M b->b<w.heap.size)
  (hX:∀ j s w',R j s w'->xai P w' cv xs) (hL:∀ j s w' w'',R j s w'->Below w'.heap.size w' w''->R j s w'')
  (hF:∀ (j:Nat) s (k:Nat) x w',j<xs.length+1->R j s w'->xs[k]?=some x->Calls Tryz.prog 117 #[.int .i64 k,p1,p2] w' fun e w''=>e=.returned (.bool (vis s k x).2)/\R (j+1) (vis s k x).1 w''/\Keeps (fun b=>¬ M b) w' w''/\w'.heap.size<=w''.heap.size) :
  Calls Tryz.prog 73 #[WV cv hv ep,.int .i64 c,.func (.func 117) #[] #[p1,p2]] w fun e w'=>e=.returned (.tuple #[])/\∃ j,R j (upE vis xs (xs.length+1) c s0) w':=by
 obtain⟨ad,cap,rfl,hl,hcap,hby,hrow⟩:=id hh;obtain⟨ah,nh,ch,rfl⟩:∃ a n c,hv=.slice a n c:=hhv;unfold maxLen at hcap;go_enter Tryz.func73,Tryz.ntmps73;go_wp2;have hb0:(w.alloc (Obj.cells #[.slice ad xs.length cap,.slice ah nh ch,.int .i64 ep] 25)).cell? ⟨w.heap.size,0,none⟩=some (.slice ad xs.length cap):=by simp
 have hb1:(w.alloc (Obj.cells #[.slice ad xs.length cap,.slice ah nh ch,.int .i64 ep] 25)).cell? ⟨w.heap.size,1,none⟩=some (.slice ah nh ch):=by simp
 have hb2:(w.alloc (Obj.cells #[.slice ad xs.length cap,.slice ah nh ch,.int .i64 ep] 25)).cell? ⟨w.heap.size,2,none⟩=some (.int .i64 ep):=by simp
 have hMw:¬ M w.heap.size:=fun h=>by have:=hM _ h;omega
 have hRa:=hL 0 s0 w _ hR (xaj w (Obj.cells #[.slice ad xs.length cap,.slice ah nh ch,.int .i64 ep] 25));clear hR hrow hh
 go_loopg [1,10] (xs.length+1) (fun g c' i wr=>∃ (j:Nat) (cc:Int) (s:σ),j+g=xs.length+1/\i=.int .i64 j/\c'=.int .i64 cc/\R j s wr/\upE vis xs (xs.length+1) c s0=upE vis xs g cc s/\wr.cell? ⟨w.heap.size,0,none⟩=some (.slice ad xs.length cap)/\wr.cell? ⟨w.heap.size,1,none⟩=some (.slice ah nh ch)/\wr.cell? ⟨w.heap.size,2,none⟩=some (.int .i64 ep))
 case atStart=>exact⟨0,c,s0,by omega,rfl,rfl,hRa,rfl,hb0,hb1,hb2⟩
 case round=>
  obtain⟨j,cc,s,hj,rfl,rfl,hRs,hE,c0,c1,c2⟩:=hrel;have HE:Hid (upE vis xs (xs.length+1) c s0=upE vis xs gk cc s):=hE;clear hE hb0 hb1 hb2 hRa
  by_cases hlt:j<xs.length+1
  ·obtain⟨g',rfl⟩:∃ g',gk=g'+1:=⟨gk-1,by omega⟩
   have hj1:(j:Int)<(xs.length:Int)+1:=by omega
   cases hx:xby xs cc with
   | none=>
    have hh:xcN xs.length cc=false:=by rw[xdo,hx];rfl
    have HX:Hid (xby xs cc=none):=hx;clear hx;go_wp2_with fail;refine (xgw _ _ _ _ _ _ _ _ _).mono ?_;rintro e w1 ⟨rfl,hb⟩;rw[hh];go_wp2;refine qzK (v:=.tuple #[]) (by simp[results,Tryz.results73,go_sem]) rfl ⟨rfl,j,?_⟩
    rw[HE.out];simp only[upE,HX.out]
    exact hL _ _ _ _ hRs hb
   | some x=>
    have hh:xcN xs.length cc=true:=by rw[xdo,hx];rfl
    obtain⟨k,rfl,hxk⟩:=xbn hx;have HX:Hid (xs[k]?=some x):=hxk;have HC:Hid (xby xs (k:Int)=some x):=hx;have hk:=xae hxk;clear hx hxk;have hk0:(0:Int)<=(k:Int):=by omega
    have hk1:(k:Int)<(xs.length:Int):=by omega
    go_wp2_with fail;refine (xgw _ _ _ _ _ _ _ _ _).mono ?_;rintro e w1 ⟨rfl,hb⟩;rw[hh];replace hRs:=hL _ _ _ _ hRs hb;replace c0:=qzA hb c0;replace c1:=qzA hb c1;replace c2:=qzA hb c2;clear hb hh;go_wp2_with fail;refine (hF j s k x w1 hlt hRs HX.out).mono ?_;rintro e w2 ⟨rfl,hR2,hK2,-⟩;replace c0:=hK2 _ _ _ hMw c0;replace c1:=hK2 _ _ _ hMw c1;replace c2:=hK2 _ _ _ hMw c2
    cases hv2:(vis s k x).2
    ·go_wp2;refine qzK (v:=.tuple #[]) (by simp[results,Tryz.results73,go_sem]) rfl ⟨rfl,j+1,?_⟩
     rw[HE.out];simp only[upE,HC.out,Int.toNat_natCast,hv2]
     exact hR2
    ·obtain⟨ad',cap',e',-,-,-,hrow⟩:=hX _ _ _ hR2;simp only[Value.slice.injEq] at e';obtain⟨rfl,-,rfl⟩:=e';obtain⟨b,o,rfl,-,-,hv1,-⟩:=hrow k x HX.out;clear hrow;go_wp2
     go_roundg g'
     case measure=>omega
     case rel=>
      refine⟨j+1,x.super,(vis s k x).1,by omega,by go_num,rfl,hR2,?_,c0,c1,c2⟩
      rw[HE.out];simp only[upE,HC.out,Int.toNat_natCast,hv2,if_true]
  ·obtain rfl:gk=0:=by omega
   go_wp2
   go_end0
   refine⟨rfl,j,?_⟩;rw[HE.out]
   exact hRs
theorem xig {P:Nat->Prop}(xs:List QC)(cv:Value)(s:Int)(k:Nat)(x:QC)(bs bw:Nat)(w:World)(hne:bs≠bw)(hs:w.heap[bs]?=some (.cells #[.int .i64 s] 3 (0,0)))(hw:w.cell? ⟨bw,0,none⟩=some cv)(hh:xai P w cv xs)(hx:xs[k]?=some x) :
  Calls Tryz.prog 117 #[.int .i64 k,.pointer (some ⟨bs,0,none⟩),.pointer (some ⟨bw,0,none⟩)] w fun e w''=>e=.returned (.bool true)/\w''.heap[bs]?=some (.cells #[.int .i64 (xdH s k x).1] 3 (0,0))/\Keeps (fun b=>b≠bs) w w''/\Below bs w w'':=by
 obtain⟨ad,cap,rfl,hl,hcap,hby,hrow⟩:=id hh;have hk:=xae hx;obtain⟨b,o,rfl,-,hv0,hv1,hv2,-⟩:=hrow k x hx;have hk0:(0:Int)<=(k:Int):=by omega
 have hk1:(k:Int)<(xs.length:Int):=by omega
 have c1:=cell_of_one hs;have f1:=free_of_one hs;have HV:Hid ((xdH s k x).1=IntKind.i64.wrap (s+x.slots)):=rfl;generalize (xdH s k x).1=u at *;have hwr:IntKind.i64.wrap (s+x.slots)=u:=HV.out.symm;clear hrow hh hx;go_enter Tryz.func117,Tryz.ntmps117;go_wp2
 go_region
 all_goals go_wp2
 all_goals go_ret
 all_goals
  refine⟨rfl,?_,?_,?_⟩
  ·first | exact one_setCell (by first | exact hs | simpa using hs) | (rw[HV.out];exact one_setCell (by first | exact hs | simpa using hs))
  ·exact Keeps.of_setCell (fun h=>h rfl) _
  ·first | exact xkL _ _ _ _ | exact (xkL _ _ _ _).drew
theorem xjk {P:Nat->Prop}(X:QW)(c:Int)(cv hv:Value)(w:World)(hh:xai P w cv X.cz)(hH:xaC P w hv X.heap):Calls Tryz.prog 113 #[WV cv hv X.ez,.int .i64 c] w fun e w'=>e=.returned (.int .i64 (xa8 X.cz c))/\Below w.heap.size w w':=by
 have hm:=hmf;obtain⟨ad,cap,rfl,hl,hcap,hby,-⟩:=id hh;obtain⟨ah,ch,rfl,-,-,-,-⟩:=id hH;go_enter Tryz.func113,Tryz.ntmps113;go_wp2_with fail;refine (xlP (P:=P) (M:=fun b=>b=w.heap.size+1) xdH (SlRW (P:=P) w (.slice ad X.cz.length cap) X.cz) _ _ X.cz c 0 _ _ _ _ (hh.later xaz (xca _ _ _)) ⟨_,_,_,rfl⟩ ?_ ?_ ?_ ?_ ?_).mono ?_
 ·refine⟨xca _ _ _,hh.later xaz (xca _ _ _),?_,?_⟩
  ·have:=qzJ (w.alloc (Obj.cells #[Value.slice ad X.cz.length cap,Value.slice ah X.heap.length ch,Value.int .i64 X.ez] 25)) (Obj.cells #[Value.int .i64 0] 3)
   simpa using this
  ·exact qzA (xaj _ _) (by rw[xaa _ _ _ _ rfl];rfl)
 ·rintro b rfl;simp
 ·exact fun j s w' h=>h.2.1
 ·rintro j s w' w'' ⟨h1,h2,h3,h4⟩ hb
  exact⟨xah h1 hb,h2.later xaz hb,by rw[hb.block _ (xaf h3)];exact h3,qzA hb h4⟩
 ·rintro j s k x w' hj ⟨h1,h2,h3,h4⟩ hx;refine (xig X.cz _ s k x (w.heap.size+1) w.heap.size w' (by omega) h3 h4 h2 hx).mono ?_
  rintro e w'' ⟨rfl,k1,k2,k3⟩;refine⟨rfl,⟨h1.trans (k3.mono (by omega)),?_,k1,k2 _ _ _ (by show _≠_;omega) h4⟩,k2.mono fun b hb=>hb,k3.size⟩
  exact hh.later xaz (h1.trans (k3.mono (by omega)))
 ·rintro e w1 ⟨rfl,j,h1,h2,h3,h4⟩;have c1:=cell_of_one h3;go_wp2
  go_ret
  exact⟨rfl,h1⟩
theorem xkW (k n h:Int)(w:World):Calls Tryz.prog 55 #[.agg #[.int .i64 k,.int .i64 n],.int .i64 h] w fun e w'=>e=.returned (.int .i64 (xch k n h))/\Below w.heap.size w w':=by
 go_enter Tryz.func55,Tryz.ntmps55;go_wp2
 all_goals
  go_ret
  refine⟨xak ?_,(qzL _ _).alloc (qzC _) _⟩
  go_light
  try simp only[beq_iff_eq,bne_iff_ne,ne_eq,beq_eq_false_iff_ne,bne_eq_false_iff_eq] at *
  unfold xch
  (repeat' split)<;>omega
theorem xfL (v:QV)(h:Int)(w:World):Calls Tryz.prog 55 #[VV v,.int .i64 h] w fun e w'=>e=.returned (.int .i64 (xas h v))/\Below w.heap.size w w':=xkW v.k v.n h w
def xdr (n:Nat)(v:QV):Bool:=decide (v.k=4/\0<=v.n/\v.n<n)
theorem xiN (a:Option Addr)(n c:Nat)(v:QV)(w:World):Calls Tryz.prog 76 #[.slice a n c,VV v] w fun e w'=>e=.returned (.bool (xdr n v))/\Below w.heap.size w w':=by
 go_enter Tryz.func76,Tryz.ntmps76;go_wp2
 all_goals
  go_ret
  refine⟨xb7 ?_,xaj _ _⟩
  go_light
  try simp only[beq_iff_eq,bne_iff_ne,ne_eq,beq_eq_false_iff_ne,bne_eq_false_iff_eq] at *
  unfold xdr
  simp[*]
  try omega
theorem xe6 {h:List QO}{v:QV}(hi:xdr h.length v=true):∃ (j:Nat) (o:QO),v.n=(j:Int)/\j<h.length/\h[j]?=some o/\xdt h v=some o:=by
 unfold xdr at hi;simp only[decide_eq_true_eq] at hi;obtain⟨h1,h2,h3⟩:=hi;have hj:v.n.toNat<h.length:=by omega
 exact⟨v.n.toNat,h[v.n.toNat],by omega,hj,by simp[hj],by unfold xdt;rw[if_pos ⟨h1,h2⟩];simp[hj]⟩
theorem xdO {h:List QO}{v:QV}(hi:xdr h.length v=false):xdt h v=none:=by
 unfold xdr at hi;simp only[decide_eq_false_iff_not] at hi;unfold xdt
 split
 ·rename_i k;exact List.getElem?_eq_none (by omega)
 ·rfl
theorem xel {P:Nat->Prop}(hs:List QO)(hv:Value)(v:QV)(w:World)(h:xaC P w hv hs):Calls Tryz.prog 60 #[hv,VV v] w fun e w'=>e=.returned (.int .i64 (xar hs v))/\Below w.heap.size w w':=by
 have hb1:=xaj w (.cells #[.int .i64 v.k,.int .i64 v.n] 27);have h1:=h.later xaD hb1;have b0:(w.alloc (.cells #[.int .i64 v.k,.int .i64 v.n] 27)).cell? ⟨w.heap.size,0,none⟩=some (.int .i64 v.k):=xaa _ _ _ _ rfl 0;have b1:(w.alloc (.cells #[.int .i64 v.k,.int .i64 v.n] 27)).cell? ⟨w.heap.size,1,none⟩=some (.int .i64 v.n):=xaa _ _ _ _ rfl 1;obtain⟨a,cap,rfl,-,hcap,-,-⟩:=id h;unfold maxLen at hcap;clear h;go_enter Tryz.func60,Tryz.ntmps60
 go_upto_region 1 with (fail)
 generalize (w.alloc (.cells #[.int .i64 v.k,.int .i64 v.n] 27))=W at *
 by_cases h0:v.k=0
 ·have HE:Hid (xar hs v=1):=by show _=_;unfold xar;rw[if_pos h0]
  have h0':(v.k == 0)=true:=by simpa using h0
  go_wp2
  go_ret
  exact⟨xak HE.out.symm,hb1⟩
 have h0':(v.k == 0)=false:=by simpa using h0
 by_cases h12:v.k=1
 ·have HE:Hid (xar hs v=2):=by show _=_;unfold xar;rw[if_neg h0,if_pos (Or.inl h12)]
  have h12':(v.k == 1)=true:=by simpa using h12
  go_wp2
  go_ret
  exact⟨xak HE.out.symm,hb1⟩
 have h12':(v.k == 1)=false:=by simpa using h12
 by_cases h22:v.k=2
 ·have HE:Hid (xar hs v=2):=by show _=_;unfold xar;rw[if_neg h0,if_pos (Or.inr h22)]
  have h22':(v.k == 2)=true:=by simpa using h22
  go_wp2
  go_ret
  exact⟨xak HE.out.symm,hb1⟩
 have h22':(v.k == 2)=false:=by simpa using h22
 by_cases h3:v.k=3
 ·have HE:Hid (xar hs v=3):=by show _=_;unfold xar;rw[if_neg h0,if_neg (by omega),if_pos h3]
  have h3':(v.k == 3)=true:=by simpa using h3
  go_wp2
  go_ret
  exact⟨xak HE.out.symm,hb1⟩
 have h3':(v.k == 3)=false:=by simpa using h3
 have HE:Hid (xar hs v=((xdt hs v).map QO.cls).getD 0):=by show _=_;unfold xar;rw[if_neg h0,if_neg (by omega),if_neg h3]
 clear h0 h12 h22 h3;go_wp2_with fail;refine (xiN a hs.length cap v _).mono ?_;rintro e w1 ⟨rfl,hb2⟩;have c1:=qzA hb2 b1;have h2:=h1.later xaD hb2
 cases hi:xdr hs.length v with
 | false=>
  have HN:=hid (xdO hi);go_wp2
  go_ret
  exact⟨xak (by rw[HE.out,HN.out];rfl),xah hb1 hb2⟩
 | true=>
  obtain⟨j,o,hj,hjl,hjo,hob⟩:=xe6 hi;have HN:=hid hob;rw[hj] at c1;obtain⟨a',cap',e,-,-,-,hrow⟩:=h2
  cases e
  obtain⟨b,of,rfl,-,e0,-⟩:=hrow j o hjo;simp only[Nat.add_zero] at e0;have hj1:(j:Int)<(hs.length:Int):=by omega
  have hj0:(0:Int)<=(j:Int):=by omega
  clear hj hjo hob hrow;go_wp2
  go_ret
  exact⟨xak (by rw[HE.out,HN.out];rfl),xah hb1 hb2⟩
theorem xg7 {P:Nat->Prop}(hs:List QO)(hv:Value)(v:QV)(n:Int)(w:World)(h:xaC P w hv hs):Calls Tryz.prog 111 #[hv,VV v,.int .i64 n] w fun e w'=>e=.returned (VV (xcV hs v n))/\Below w.heap.size w w':=by
 have hb1:=xca w (.cells #[.int .i64 v.k,.int .i64 v.n] 27) (.cells #[.int .i64 0,.int .i64 0] 27);have h1:=h.later xaD hb1;have b0:((w.alloc (.cells #[.int .i64 v.k,.int .i64 v.n] 27)).alloc (.cells #[.int .i64 0,.int .i64 0] 27)).cell? ⟨w.heap.size,0,none⟩=some (.int .i64 v.k):=qzA (xaj _ _) (xaa _ _ _ _ rfl 0);have b1:((w.alloc (.cells #[.int .i64 v.k,.int .i64 v.n] 27)).alloc (.cells #[.int .i64 0,.int .i64 0] 27)).cell? ⟨w.heap.size,1,none⟩=some (.int .i64 v.n):=qzA (xaj _ _) (xaa _ _ _ _ rfl 1);have r0:((w.alloc (.cells #[.int .i64 v.k,.int .i64 v.n] 27)).alloc (.cells #[.int .i64 0,.int .i64 0] 27)).cell? ⟨w.heap.size+1,0,none⟩=some (.int .i64 0):=xaa _ _ _ _ (by simp) 0
 have r1:((w.alloc (.cells #[.int .i64 v.k,.int .i64 v.n] 27)).alloc (.cells #[.int .i64 0,.int .i64 0] 27)).cell? ⟨w.heap.size+1,1,none⟩=some (.int .i64 0):=xaa _ _ _ _ (by simp) 1
 have rf:∀ o,((w.alloc (.cells #[.int .i64 v.k,.int .i64 v.n] 27)).alloc (.cells #[.int .i64 0,.int .i64 0] 27)).frozen? ⟨w.heap.size+1,o,none⟩=false:=fun o=>xam (cur:=#[.int .i64 0,.int .i64 0]) (t:=27) (by have:=qzJ (w.alloc (.cells #[.int .i64 v.k,.int .i64 v.n] 27)) (.cells #[.int .i64 0,.int .i64 0] 27);simpa using this) o
 have hz:((w.alloc (.cells #[.int .i64 v.k,.int .i64 v.n] 27)).alloc (.cells #[.int .i64 0,.int .i64 0] 27)).heap.size=w.heap.size+2:=by simp
 obtain⟨a,cap,rfl,-,hcap,-,-⟩:=id h;unfold maxLen at hcap;clear h;go_enter Tryz.func111,Tryz.ntmps111
 go_upto_region 1 with (fail)
 generalize ((w.alloc (.cells #[.int .i64 v.k,.int .i64 v.n] 27)).alloc (.cells #[.int .i64 0,.int .i64 0] 27))=W at *;go_wp2_with fail;refine (xiN a hs.length cap v _).mono ?_;rintro e w1 ⟨rfl,hb2⟩;have c1:=qzA hb2 b1;have h2:=h1.later xaD hb2;have s0:=qzA hb2 r0;have s1:=qzA hb2 r1;have sf:∀ o,w1.frozen? ⟨w.heap.size+1,o,none⟩=false:=fun o=>(hb2.frozen (p:=⟨w.heap.size+1,o,none⟩) (by simp only[hz];omega)).trans (rf o)
 have HB:=hid (xah hb1 hb2);clear hz b0 b1 r0 r1 rf hb1 hb2 h1
 cases hi:xdr hs.length v with
 | false=>
  have HN:=hid (xdO hi);go_wp2;refine qzK (v:=VV xaU) ?_ rfl ⟨by unfold xcV;rw[HN.out];rfl,(HB.out.setCell (by simp) _).setCell (by simp) _⟩
  simp[results,Tryz.results111,go_sem,s0,s1]
 | true=>
  obtain⟨j,o,hj,hjl,hjo,hob⟩:=xe6 hi;have HN:Hid (xcV hs v n=xaM o.slots n):=by show _=_;unfold xcV;rw[hob];rfl
  rw[hj] at c1;obtain⟨a',cap',e,-,-,-,hrow⟩:=h2
  cases e
  obtain⟨b,of,rfl,-,e0,sv,e1,hsl⟩:=hrow j o hjo;obtain⟨a2,c2,rfl,-,hcap2,-,hrow2⟩:=hsl;unfold maxLen at hcap2;have hj1:(j:Int)<(hs.length:Int):=by omega
  have hj0:(0:Int)<=(j:Int):=by omega
  clear hj hjo hob hrow hi
  by_cases hn:n<0
  ·have HX:Hid (xaM o.slots n=xaU):=by show _=_;unfold xaM;rw[if_pos hn]
   have hn':decide (n<0)=true:=by simpa using hn
   go_wp2;refine qzK (v:=VV xaU) ?_ rfl ⟨by rw[HN.out,HX.out],(HB.out.setCell (by simp) _).setCell (by simp) _⟩
   simp[results,Tryz.results111,go_sem,s0,s1]
  ·have hn':decide (n<0)=false:=by simpa using hn
   obtain⟨k,rfl⟩:∃ k:Nat,n=k:=⟨n.toNat,by omega⟩
   by_cases hk:k<o.slots.length
   ·have hx:o.slots[k]?=some o.slots[k]:=by simp[hk]
    have HX:Hid (xaM o.slots k=o.slots[k]):=by show _=_;unfold xaM;rw[if_neg hn];simp[hk]
    generalize o.slots[k]=x at *;obtain⟨b3,o3,rfl,-,x0,x1⟩:=hrow2 k x hx;simp only[Nat.add_zero] at x0;have hk1:(k:Int)<(o.slots.length:Int):=by omega
    have hk2:¬ ((o.slots.length:Int)<=(k:Int)):=by omega
    go_wp2;refine qzK (v:=VV x) ?_ rfl ⟨by rw[HN.out,HX.out],(HB.out.setCell (by simp) _).setCell (by simp) _⟩
    simp[results,Tryz.results111,go_sem,s0,s1]
   ·have HX:Hid (xaM o.slots k=xaU):=by show _=_;unfold xaM;rw[if_neg hn];simp[hk]
    have hk2:((o.slots.length:Int)<=(k:Int)):=by omega
    go_wp2;refine qzK (v:=VV xaU) ?_ rfl ⟨by rw[HN.out,HX.out],(HB.out.setCell (by simp) _).setCell (by simp) _⟩
    simp[results,Tryz.results111,go_sem,s0,s1]
theorem xcY (b:Bool)(w:World):Calls Tryz.prog 100 #[.bool b] w fun e w'=>e=.returned (VV ⟨if b then 2 else 1,0⟩)/\Below w.heap.size w w':=by
 cases b
 ·go_enter Tryz.func100,Tryz.ntmps100;go_wp2;refine qzK (v:=VV ⟨1,0⟩) ?_ rfl ⟨rfl,xaj _ _⟩
  simp[results,Tryz.results100,go_sem]
 ·go_enter Tryz.func100,Tryz.ntmps100;go_wp2;refine qzK (v:=VV ⟨2,0⟩) ?_ rfl ⟨rfl,xaj _ _⟩
  simp[results,Tryz.results100,go_sem]
theorem xdE (n:Int)(w:World)(h:-2000000000000000000<=n/\n<=2000000000000000000):Calls Tryz.prog 99 #[.int .i64 n] w fun e w'=>e=.returned (VV ⟨3,n.tmod 1073741825⟩)/\Below w.heap.size w w':=by
 go_enter Tryz.func99,Tryz.ntmps99;go_wp2;refine qzK (v:=VV ⟨3,n.tmod 1073741825⟩) ?_ rfl ⟨rfl,xaj _ _⟩
 simp[results,Tryz.results99,go_sem]
theorem xkI {a b:Int}(ha:-1073741824<=a/\a<=1073741824)(hb:-1073741824<=b/\b<=1073741824):-2000000000000000000<=a*b/\a*b<=2000000000000000000:=by
 have h1:a.natAbs<=1073741824:=by omega
 have h2:b.natAbs<=1073741824:=by omega
 have h3:(a*b).natAbs<=1073741824*1073741824:=by rw[Int.natAbs_mul];exact Nat.mul_le_mul h1 h2
 omega
structure PmR (w:World)(a b:QV)(w':World):Prop where
 bel:Below w.heap.size w w'
 a0:w'.cell? ⟨w.heap.size,0,none⟩=some (.int .i64 a.k)
 a1:w'.cell? ⟨w.heap.size,1,none⟩=some (.int .i64 a.n)
 b0:w'.cell? ⟨w.heap.size+1,0,none⟩=some (.int .i64 b.k)
 b1:w'.cell? ⟨w.heap.size+1,1,none⟩=some (.int .i64 b.n)
 r0:w'.cell? ⟨w.heap.size+2,0,none⟩=some (.int .i64 0)
 r1:w'.cell? ⟨w.heap.size+2,1,none⟩=some (.int .i64 0)
 rf:∀ o,w'.frozen? ⟨w.heap.size+2,o,none⟩=false
 sz:w.heap.size+3<=w'.heap.size
theorem PmR.later {w:World}{a b:QV}{w' w'':World}(h:PmR w a b w')(hb:Below w'.heap.size w' w''):PmR w a b w'':=
 ⟨xah h.bel hb,qzA hb h.a0,qzA hb h.a1,qzA hb h.b0,qzA hb h.b1,qzA hb h.r0,qzA hb h.r1,fun o=>(hb.frozen (p:=⟨w.heap.size+2,o,none⟩) (by have:=h.sz;simp only;omega)).trans (h.rf o),qzD h.sz hb.size⟩
theorem xk7 (w:World)(a b:QV):PmR w a b (((w.alloc (.cells #[.int .i64 a.k,.int .i64 a.n] 27)).alloc (.cells #[.int .i64 b.k,.int .i64 b.n] 27)).alloc (.cells #[.int .i64 0,.int .i64 0] 27)):=by
 refine⟨xfv _ _ _ _,qzA (xca _ _ _) (xaa _ _ _ _ rfl 0),qzA (xca _ _ _) (xaa _ _ _ _ rfl 1),qzA (xaj _ _) (xaa _ _ _ _ (by simp) 0),qzA (xaj _ _) (xaa _ _ _ _ (by simp) 1),xaa _ _ _ _ (by simp) 0,xaa _ _ _ _ (by simp) 1,fun o=>xam (cur:=#[.int .i64 0,.int .i64 0]) (t:=27) ?_ o,by simp⟩
 have:=qzJ ((w.alloc (.cells #[.int .i64 a.k,.int .i64 a.n] 27)).alloc (.cells #[.int .i64 b.k,.int .i64 b.n] 27)) (.cells #[.int .i64 0,.int .i64 0] 27)
 simpa using this
theorem xmi (p:Int)(a b:QV)(w:World)(ha:a.k=3->-1073741824<=a.n/\a.n<=1073741824)(hb:b.k=3->-1073741824<=b.n/\b.n<=1073741824):Calls Tryz.prog 91 #[.int .i64 p,VV a,VV b] w fun e w'=>e=.returned (.tuple #[VV (xbA p a b).1,.int .i64 (xbA p a b).2])/\Below w.heap.size w w':=by
 have hR:=xk7 w a b;go_enter Tryz.func91,Tryz.ntmps91
 go_upto_region 1 with (fail)
 generalize (((w.alloc (.cells #[.int .i64 a.k,.int .i64 a.n] 27)).alloc (.cells #[.int .i64 b.k,.int .i64 b.n] 27)).alloc (.cells #[.int .i64 0,.int .i64 0] 27))=W at *;obtain⟨-,a0,a1,b0,b1,r0,r1,rf,sz⟩:=id hR;simp only[Nat.add_assoc,Nat.reduceAdd] at *
 by_cases hk:a.k=3/\b.k=3
 ·have hab:=And.intro (ha hk.1) (hb hk.2);have ak:(a.k == 3)=true:=by simpa using hk.1
  have bk:(b.k == 3)=true:=by simpa using hk.2
  have ak':(a.k != 3)=false:=by simpa using hk.1
  have bk':(b.k != 3)=false:=by simpa using hk.2
  have hP:xbA p a b=if p=1 then (⟨3,(a.n+b.n).tmod 1073741825⟩,0) else if p=2 then (⟨3,(a.n-b.n).tmod 1073741825⟩,0) else if p=3 then (⟨3,(a.n*b.n).tmod 1073741825⟩,0) else if p=4 then (⟨if a.n<b.n then 2 else 1,0⟩,0) else if p=5 then (⟨if a.n=b.n then 2 else 1,0⟩,0) else (xaU,1):=by unfold xbA;rw[if_neg (by omega)]
  have wadd:IntKind.i64.wrap (a.n+b.n)=a.n+b.n:=xaE (by omega) (by omega)
  have wsub:IntKind.i64.wrap (a.n-b.n)=a.n-b.n:=xaE (by omega) (by omega)
  have hm:=xkI hab.1 hab.2;have wmul:IntKind.i64.wrap (a.n*b.n)=a.n*b.n:=xaE (by omega) (by omega)
  have hA:=hid hab;have hM:=hid hm;clear hab hm ha hb hk
  by_cases hp1:p=1
  ·have hV:Hid (xbA p a b=(⟨3,(a.n+b.n).tmod 1073741825⟩,0)):=by show _=_;rw[hP];rw[if_pos hp1]
   have hq1:(p == 1)=true:=by simpa using hp1
   clear hP;go_wp2_with fail;refine (xdE (a.n+b.n) _ (by have:=hA.out;omega)).mono ?_
   rintro e w1 ⟨rfl,hb1⟩;have hR1:=hR.later hb1;clear a0 a1 b0 b1 r0 r1 rf hR;obtain⟨-,a0,a1,b0,b1,r0,r1,rf,-⟩:=id hR1;go_wp2;refine qzK (v:=.tuple #[VV ⟨3,(a.n+b.n).tmod 1073741825⟩,.int .i64 0]) ?_ rfl ⟨by rw[hV.out],(hR1.bel.setCell (by simp) _).setCell (by simp) _⟩
   simp[results,Tryz.results91,go_sem,r0,r1]
  have hq1:(p == 1)=false:=by simpa using hp1
  by_cases hp2:p=2
  ·have hV:Hid (xbA p a b=(⟨3,(a.n-b.n).tmod 1073741825⟩,0)):=by show _=_;rw[hP];rw[if_neg hp1];rw[if_pos hp2]
   have hq2:(p == 2)=true:=by simpa using hp2
   clear hP;go_wp2_with fail;refine (xdE (a.n-b.n) _ (by have:=hA.out;omega)).mono ?_
   rintro e w1 ⟨rfl,hb1⟩;have hR1:=hR.later hb1;clear a0 a1 b0 b1 r0 r1 rf hR;obtain⟨-,a0,a1,b0,b1,r0,r1,rf,-⟩:=id hR1;go_wp2;refine qzK (v:=.tuple #[VV ⟨3,(a.n-b.n).tmod 1073741825⟩,.int .i64 0]) ?_ rfl ⟨by rw[hV.out],(hR1.bel.setCell (by simp) _).setCell (by simp) _⟩
   simp[results,Tryz.results91,go_sem,r0,r1]
  have hq2:(p == 2)=false:=by simpa using hp2
  by_cases hp3:p=3
  ·have hV:Hid (xbA p a b=(⟨3,(a.n*b.n).tmod 1073741825⟩,0)):=by show _=_;rw[hP];rw[if_neg hp1];rw[if_neg hp2];rw[if_pos hp3]
   have hq3:(p == 3)=true:=by simpa using hp3
   clear hP;go_wp2_with fail;refine (xdE (a.n*b.n) _ hM.out).mono ?_;rintro e w1 ⟨rfl,hb1⟩;have hR1:=hR.later hb1;clear a0 a1 b0 b1 r0 r1 rf hR;obtain⟨-,a0,a1,b0,b1,r0,r1,rf,-⟩:=id hR1;go_wp2;refine qzK (v:=.tuple #[VV ⟨3,(a.n*b.n).tmod 1073741825⟩,.int .i64 0]) ?_ rfl ⟨by rw[hV.out],(hR1.bel.setCell (by simp) _).setCell (by simp) _⟩
   simp[results,Tryz.results91,go_sem,r0,r1]
  have hq3:(p == 3)=false:=by simpa using hp3
  by_cases hp4:p=4
  ·have hq4:(p == 4)=true:=by simpa using hp4
   by_cases hc:a.n<b.n
   ·have hV:Hid (xbA p a b=(⟨2,0⟩,0)):=by show _=_;rw[hP];rw[if_neg hp1];rw[if_neg hp2];rw[if_neg hp3];rw[if_pos hp4,if_pos hc]
    have hd:decide (a.n<b.n)=true:=by simpa using hc
    clear hP hp4 hc;go_wp2_with fail;refine (xcY true _).mono ?_;rintro e w1 ⟨rfl,hb1⟩;have hR1:=hR.later hb1;clear a0 a1 b0 b1 r0 r1 rf hR;obtain⟨-,a0,a1,b0,b1,r0,r1,rf,-⟩:=id hR1;go_wp2;refine qzK (v:=.tuple #[VV ⟨2,0⟩,.int .i64 0]) ?_ rfl ⟨by rw[hV.out],(hR1.bel.setCell (by simp) _).setCell (by simp) _⟩
    simp[results,Tryz.results91,go_sem,r0,r1]
   ·have hV:Hid (xbA p a b=(⟨1,0⟩,0)):=by show _=_;rw[hP];rw[if_neg hp1];rw[if_neg hp2];rw[if_neg hp3];rw[if_pos hp4,if_neg hc]
    have hd:decide (a.n<b.n)=false:=by simpa using hc
    clear hP hp4 hc;go_wp2_with fail;refine (xcY false _).mono ?_;rintro e w1 ⟨rfl,hb1⟩;have hR1:=hR.later hb1;clear a0 a1 b0 b1 r0 r1 rf hR;obtain⟨-,a0,a1,b0,b1,r0,r1,rf,-⟩:=id hR1;go_wp2;refine qzK (v:=.tuple #[VV ⟨1,0⟩,.int .i64 0]) ?_ rfl ⟨by rw[hV.out],(hR1.bel.setCell (by simp) _).setCell (by simp) _⟩
    simp[results,Tryz.results91,go_sem,r0,r1]
  have hq4:(p == 4)=false:=by simpa using hp4
  by_cases hp5:p=5
  ·have hq5:(p == 5)=true:=by simpa using hp5
   by_cases hc:a.n=b.n
   ·have hV:Hid (xbA p a b=(⟨2,0⟩,0)):=by show _=_;rw[hP];rw[if_neg hp1];rw[if_neg hp2];rw[if_neg hp3];rw[if_neg hp4];rw[if_pos hp5,if_pos hc]
    have hd:(a.n == b.n)=true:=by simpa using hc
    clear hP hp5 hc;go_wp2_with fail;refine (xcY true _).mono ?_;rintro e w1 ⟨rfl,hb1⟩;have hR1:=hR.later hb1;clear a0 a1 b0 b1 r0 r1 rf hR;obtain⟨-,a0,a1,b0,b1,r0,r1,rf,-⟩:=id hR1;go_wp2;refine qzK (v:=.tuple #[VV ⟨2,0⟩,.int .i64 0]) ?_ rfl ⟨by rw[hV.out],(hR1.bel.setCell (by simp) _).setCell (by simp) _⟩
    simp[results,Tryz.results91,go_sem,r0,r1]
   ·have hV:Hid (xbA p a b=(⟨1,0⟩,0)):=by show _=_;rw[hP];rw[if_neg hp1];rw[if_neg hp2];rw[if_neg hp3];rw[if_neg hp4];rw[if_pos hp5,if_neg hc]
    have hd:(a.n == b.n)=false:=by simpa using hc
    clear hP hp5 hc;go_wp2_with fail;refine (xcY false _).mono ?_;rintro e w1 ⟨rfl,hb1⟩;have hR1:=hR.later hb1;clear a0 a1 b0 b1 r0 r1 rf hR;obtain⟨-,a0,a1,b0,b1,r0,r1,rf,-⟩:=id hR1;go_wp2;refine qzK (v:=.tuple #[VV ⟨1,0⟩,.int .i64 0]) ?_ rfl ⟨by rw[hV.out],(hR1.bel.setCell (by simp) _).setCell (by simp) _⟩
    simp[results,Tryz.results91,go_sem,r0,r1]
  have hq5:(p == 5)=false:=by simpa using hp5
  have hV:Hid (xbA p a b=(xaU,1)):=by show _=_;rw[hP];rw[if_neg hp1];rw[if_neg hp2];rw[if_neg hp3];rw[if_neg hp4];rw[if_neg hp5]
  clear hP;go_wp2;refine qzK (v:=.tuple #[VV xaU,.int .i64 1]) ?_ rfl ⟨by rw[hV.out],(hR.bel.setCell (by simp) _).setCell (by simp) _⟩
  simp[results,Tryz.results91,go_sem,r0,r1]
 ·have hN:Hid (xbA p a b=(xaU,12)):=by show _=_;unfold xbA;rw[if_pos (by omega)]
  by_cases ak:a.k=3
  ·have ak':(a.k != 3)=false:=by simpa using ak
   have bk':(b.k != 3)=true:=by simpa using fun h=>hk ⟨ak,h⟩
   clear ak hk ha hb;go_wp2;refine qzK (v:=.tuple #[VV xaU,.int .i64 12]) ?_ rfl ⟨by rw[hN.out],(hR.bel.setCell (by simp) _).setCell (by simp) _⟩
   simp[results,Tryz.results91,go_sem,r0,r1]
  ·have ak':(a.k != 3)=true:=by simpa using ak
   clear ak hk ha hb;go_wp2;refine qzK (v:=.tuple #[VV xaU,.int .i64 12]) ?_ rfl ⟨by rw[hN.out],(hR.bel.setCell (by simp) _).setCell (by simp) _⟩
   simp[results,Tryz.results91,go_sem,r0,r1]
structure Mp (σ:Type) where
 E:Env σ
 cv:Value
 ep:Int
 lv:Value
 qv:Value
section
variable {σ:Type}
abbrev MB (p:Mp σ)(m:Mc σ)(calls:Int)(hv:Value):Obj:=.cells #[p.cv,hv,.int .i64 p.ep,.int .i64 p.E.fuel,.int .i64 m.sz_,.int .i64 calls,.int .i64 m.turns,p.lv,p.qv] 112 (0,0)
structure MacAt (p:Mp σ)(T:Nat->Nat)(w:World)(mb:Nat)(m:Mc σ)(calls:Int)(hv:Value)(g:Nat)(s:Nat->Nat):Prop where
 box:w.heap[mb]?=some (MB p m calls hv)
 tag:T mb=1
 heap:HeapSt T w hv g s m.heap
 cls:xai (Fx T w) w p.cv p.E.cz
variable {p:Mp σ} {T T':Nat->Nat} {w w':World} {mb:Nat} {m m':Mc σ} {calls calls':Int} {hv:Value} {g:Nat} {s:Nat->Nat}
theorem MacAt.keep {S:Nat->Prop}(h:MacAt p T w mb m calls hv g s)(e:Ext T T' w)(k:Kp S T w w')(h0:¬ S 0)(h1:¬ S 1)(h2:¬ S 2):MacAt p T' w' mb m calls hv g s:=
 ⟨k.held h.box (by rw[h.tag];exact h1),by rw[e _ (xaf h.box)];exact h.tag,h.heap.keep e k h2,h.cls.fx xaz e k h0⟩
theorem MacAt.later (h:MacAt p T w mb m calls hv g s)(hb:Below w.heap.size w w'):MacAt p T w' mb m calls hv g s:=h.keep (S:=fun _=>False) (.refl _ _) (.of_below hb) id id id
theorem MacAt.turn (h:MacAt p T w mb m calls hv g s)(k:Kp (fun t=>t=1) T w w')(hb:w'.heap[mb]?=some (MB p m' calls' hv))(e:m'.heap=m.heap):MacAt p T w' mb m' calls' hv g s:=
 ⟨hb,h.tag,by rw[e];exact h.heap.keep (.refl _ _) k (by omega),h.cls.fx xaz (.refl _ _) k (by omega)⟩
theorem MacAt.c0 (h:MacAt p T w mb m calls hv g s):w.cell? ⟨mb,0,none⟩=some p.cv:=by rw[qzB h.box];rfl
theorem MacAt.c1 (h:MacAt p T w mb m calls hv g s):w.cell? ⟨mb,1,none⟩=some hv:=by rw[qzB h.box];rfl
theorem MacAt.c2 (h:MacAt p T w mb m calls hv g s):w.cell? ⟨mb,2,none⟩=some (.int .i64 p.ep):=by rw[qzB h.box];rfl
theorem MacAt.c3 (h:MacAt p T w mb m calls hv g s):w.cell? ⟨mb,3,none⟩=some (.int .i64 p.E.fuel):=by rw[qzB h.box];rfl
theorem MacAt.c4 (h:MacAt p T w mb m calls hv g s):w.cell? ⟨mb,4,none⟩=some (.int .i64 m.sz_):=by rw[qzB h.box];rfl
theorem MacAt.c5 (h:MacAt p T w mb m calls hv g s):w.cell? ⟨mb,5,none⟩=some (.int .i64 calls):=by rw[qzB h.box];rfl
theorem MacAt.c6 (h:MacAt p T w mb m calls hv g s):w.cell? ⟨mb,6,none⟩=some (.int .i64 m.turns):=by rw[qzB h.box];rfl
theorem MacAt.c7 (h:MacAt p T w mb m calls hv g s):w.cell? ⟨mb,7,none⟩=some p.lv:=by rw[qzB h.box];rfl
theorem MacAt.c8 (h:MacAt p T w mb m calls hv g s):w.cell? ⟨mb,8,none⟩=some p.qv:=by rw[qzB h.box];rfl
theorem xj9 (h:w.heap[mb]?=some (MB p m calls hv))(n:Int):(w.setCell ⟨mb,4,none⟩ (.int .i64 n)).heap[mb]?=some (MB p { m with sz_:=n } calls hv):=by rw[xad h];rfl
theorem xkj (h:w.heap[mb]?=some (MB p m calls hv))(n:Int):(w.setCell ⟨mb,5,none⟩ (.int .i64 n)).heap[mb]?=some (MB p m n hv):=by rw[xad h];rfl
theorem xnT (h:w.heap[mb]?=some (MB p m calls hv))(n:Int):(w.setCell ⟨mb,6,none⟩ (.int .i64 n)).heap[mb]?=some (MB p { m with turns:=n } calls hv):=by rw[xad h];rfl
theorem xiq (h:w.heap[mb]?=some (MB p m calls hv))(xs:List QO)(hv':Value):(w.setCell ⟨mb,1,none⟩ hv').heap[mb]?=some (MB p { m with heap:=xs } calls hv'):=by rw[xad h];rfl
theorem xgb (h:MacAt p T w mb m calls hv g s)(h0:0<=m.sz_)(h1:p.E.fuel<=9000000000000000000):Calls Tryz.prog 90 #[.pointer (some ⟨mb,0,none⟩)] w fun e w'=>e=.returned (.int .i64 (if p.E.fuel<=m.sz_ then 13 else 0))/\MacAt p T w' mb (if p.E.fuel<=m.sz_ then m else { m with sz_:=m.sz_+1 }) calls hv g s/\Kp (fun t=>t=1) T w w':=by
 have c3:=h.c3;have c4:=h.c4;have cf:=xam h.box;have H:=hid h;clear h
 by_cases hf:p.E.fuel<=m.sz_
 ·rw[if_pos hf,if_pos hf];have hd:decide (p.E.fuel<=m.sz_)=true:=by simpa using hf
  go_enter Tryz.func90,Tryz.ntmps90;go_wp2
  go_region
  go_wp2
  go_ret
  exact⟨rfl,H.out.later (qzL _ _).drew,(Kp.refl _ _ _).drew⟩
 ·rw[if_neg hf,if_neg hf];have hd:decide (p.E.fuel<=m.sz_)=false:=by simpa using hf
  have hw:IntKind.i64.wrap (m.sz_+1)=m.sz_+1:=xaE (by omega) (by omega)
  go_enter Tryz.func90,Tryz.ntmps90;go_wp2
  go_region
  go_wp2
  go_ret
  have k:Kp (fun t=>t=1) T w (w.setCell ⟨mb,4,none⟩ (.int .i64 (m.sz_+1))).drew:=((Kp.refl _ _ _).set (fun _=>H.out.tag) _ _).drew
  exact⟨rfl,H.out.turn k (xj9 H.out.box _) rfl,k⟩
theorem xd7 (d:Nat)(h:MacAt p T w mb m calls hv g s)(h0:0<=m.sz_)(h1:p.E.fuel<=9000000000000000000)(hc:calls=20-(d:Int))(hd:d<=20):Calls Tryz.prog 79 #[.pointer (some ⟨mb,0,none⟩)] w fun e w'=>e=.returned (.int .i64 (xay p.E d m).2)/\MacAt p T w' mb (xay p.E d m).1 calls hv g s/\Kp (fun t=>t=1) T w w':=by
 have c3:=h.c3;have c4:=h.c4;have c5:=h.c5;have cf:=xam h.box;have H:=hid h;clear h
 by_cases hf:p.E.fuel<=m.sz_
 ·have HE:Hid (xay p.E d m=(m,13)):=by show _=_;unfold xay;rw[if_pos hf]
  have hd:decide (p.E.fuel<=m.sz_)=true:=by simpa using hf
  go_enter Tryz.func79,Tryz.ntmps79;go_wp2
  go_region
  go_wp2
  go_ret
  rw[HE.out]
  exact⟨rfl,H.out.later (qzL _ _).drew,(Kp.refl _ _ _).drew⟩
 ·have hd1:decide (p.E.fuel<=m.sz_)=false:=by simpa using hf
  by_cases hz:d=0
  ·have HE:Hid (xay p.E d m=(m,14)):=by show _=_;unfold xay;rw[if_neg hf,if_pos hz]
   have hd2:decide (20<=calls)=true:=by simp;omega
   clear hc hz;go_enter Tryz.func79,Tryz.ntmps79;go_wp2
   go_region
   go_wp2
   go_ret
   rw[HE.out]
   exact⟨rfl,H.out.later (qzL _ _).drew,(Kp.refl _ _ _).drew⟩
  ·have HE:Hid (xay p.E d m=({ m with sz_:=m.sz_+1 },0)):=by show _=_;unfold xay;rw[if_neg hf,if_neg hz]
   have hd2:decide (20<=calls)=false:=by simp;omega
   have hw:IntKind.i64.wrap (m.sz_+1)=m.sz_+1:=xaE (by omega) (by omega)
   clear hc hz;go_enter Tryz.func79,Tryz.ntmps79;go_wp2
   go_region
   go_wp2
   go_ret
   rw[HE.out];have k:Kp (fun t=>t=1) T w (w.setCell ⟨mb,4,none⟩ (.int .i64 (m.sz_+1))).drew:=((Kp.refl _ _ _).set (fun _=>H.out.tag) _ _).drew
   exact⟨rfl,H.out.turn k (xj9 H.out.box _) rfl,k⟩
theorem xmm (h:MacAt p T w mb m calls hv g s)(c n:Int):Calls Tryz.prog 77 #[.pointer (some ⟨mb,0,none⟩),.int .i64 c,.int .i64 n] w fun e w'=>e=.returned (.bool (xaO p.E.cz c n).isSome)/\Below w.heap.size w w':=by
 have c0:=h.c0;obtain⟨a,cap,hcv,hl,hcap,-,hrow⟩:=h.cls;rw[hcv] at c0;unfold maxLen at hcap;clear h
 by_cases h0:c<0
 ·have HE:Hid ((xaO p.E.cz c n).isSome=false):=by show _=_;unfold xaO xby;rw[if_neg (by omega)];rfl
  have hd:decide (0<=c)=false:=by simpa using h0
  go_enter Tryz.func77,Tryz.ntmps77;go_wp2
  go_ret
  exact⟨xb7 HE.out.symm,qzL _ _⟩
 ·obtain⟨k,rfl⟩:∃ k:Nat,c=k:=⟨c.toNat,by omega⟩
  have hd:decide (0<=(k:Int))=true:=by simp
  by_cases hk:k<p.E.cz.length
  ·have hk1:(k:Int)<(p.E.cz.length:Int):=by omega
   have hx:p.E.cz[k]?=some p.E.cz[k]:=by simp[hk]
   have HM:Hid (xaO p.E.cz (k:Int) n=if 0<=n then p.E.cz[k].mz[n.toNat]? else none):=by show _=_;unfold xaO xby;simp[hk]
   generalize p.E.cz[k]=x at *
   by_cases hn:n<0
   ·have HE:Hid ((xaO p.E.cz (k:Int) n).isSome=false):=by show _=_;rw[HM.out,if_neg (by omega)];rfl
    have hn':decide (0<=n)=false:=by simpa using hn
    go_enter Tryz.func77,Tryz.ntmps77;go_wp2
    go_ret
    exact⟨xb7 HE.out.symm,qzL _ _⟩
   ·obtain⟨j,rfl⟩:∃ j:Nat,n=j:=⟨n.toNat,by omega⟩
    have hn':decide (0<=(j:Int))=true:=by simp
    obtain⟨b,o,rfl,-,e0,e1,e2,e3,mv,e4,hm⟩:=hrow k x hx;obtain⟨a2,cap2,rfl,-,-,-,-⟩:=hm
    have HE:Hid ((xaO p.E.cz (k:Int) (j:Int)).isSome=decide (j<x.mz.length)):=by
     show _=_
     rw[HM.out,if_pos (by omega)]
     by_cases hj:j<x.mz.length<;>simp[hj]
    clear hrow hx HM
    by_cases hj:j<x.mz.length
    ·have hj1:(j:Int)<(x.mz.length:Int):=by omega
     go_enter Tryz.func77,Tryz.ntmps77;go_wp2
     go_ret
     exact⟨xb7 (by rw[HE.out];simp[hj]),qzL _ _⟩
    ·have hj1:(x.mz.length:Int)<=(j:Int):=by omega
     go_enter Tryz.func77,Tryz.ntmps77;go_wp2
     go_ret
     exact⟨xb7 (by rw[HE.out];simp[hj]),qzL _ _⟩
  ·have HE:Hid ((xaO p.E.cz (k:Int) n).isSome=false):=by show _=_;unfold xaO xby;simp[hk]
   have hk1:(p.E.cz.length:Int)<=(k:Int):=by omega
   go_enter Tryz.func77,Tryz.ntmps77;go_wp2
   go_ret
   exact⟨xb7 HE.out.symm,qzL _ _⟩
end
end Go.Proofs.YtapbeiccodnniaaGreat
