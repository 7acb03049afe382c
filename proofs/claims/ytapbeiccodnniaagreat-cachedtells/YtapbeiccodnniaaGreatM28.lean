/- A part. -/
import Derived.Test.YtapbeiccodnniaaGreatM27
namespace Go.Proofs.YtapbeiccodnniaaGreat
open Go.ChangeShapes Go.WideShapes Go.ChangeAt Go.RowKit
set_option linter.unusedSimpArgs false
set_option linter.unusedVariables false
set_option maxHeartbeats 8000000
set_option maxRecDepth 8000
theorem xfy {P Q:Nat->Prop}(X:QW)(s:QV)(name:ByteArray)(args:List QV)(fuel:Int)(cv hv av:Value)(w:World)(hcv:∃ a n c,cv=.slice a n c)(hH:xaC P w hv X.heap)(hA:xaB Q w av args)(hn:name.size<=140737488351232):Calls Tryz.prog 33 #[WV cv hv X.ez,ClV s name av,.int .i64 fuel] w fun e w'=>e=.returned (.int .i64 (xap X s name args fuel))/\Below w.heap.size w w':=by
 have hR:=xgc w cv hv X.ez s name av;obtain⟨ah,ch,rfl,-⟩:=id hH;obtain⟨aa,ca,rfl,hal,hac,-,hrow⟩:=id hA;obtain⟨ac,nc,cc,rfl⟩:=hcv;unfold maxLen at hac;go_enter Tryz.func33,Tryz.ntmps33
 go_upto_region 1 with (fail)
 generalize ((w.alloc (.cells #[.slice ac nc cc,.slice ah X.heap.length ch,.int .i64 X.ez] 25)).alloc (.cells #[.int .i64 s.k,.int .i64 s.n,.string name,.slice aa args.length ca] 30))=W at *;obtain⟨-,w0,w1,w2,c0,c1,c2,c3⟩:=id hR;go_wp2_with fail;refine (xfX name _ hn).mono ?_;rintro e w1' ⟨rfl,hw1⟩;subst hw1;have hb1:=qzL w1'.heap.size w1';have hR1:=hR.later hb1;clear w0 w1 w2 c0 c1 c2 c3 hR hb1;obtain⟨-,w0,w1,w2,c0,c1,c2,c3⟩:=id hR1
 cases hnb:xbf name with
 | false=>
  have HE:Hid (xap X s name args fuel=7):=by show _=_;unfold xap;rw[if_pos hnb]
  go_wp2
  go_ret
  exact⟨xak HE.out.symm,hR1.bel⟩
 | true=>
  by_cases h4:4<args.length
  ·have HE:Hid (xap X s name args fuel=5):=by show _=_;unfold xap;rw[if_neg (by rw[hnb];simp),if_pos h4]
   have h4':(4:Int)<(args.length:Int):=by omega
   go_wp2
   go_ret
   exact⟨xak HE.out.symm,hR1.bel⟩
  have h4':¬ ((4:Int)<(args.length:Int)):=by omega
  by_cases hf:fuel<0
  ·have HE:Hid (xap X s name args fuel=3):=by show _=_;unfold xap;rw[if_neg (by rw[hnb];simp),if_neg h4,if_pos (Or.inl hf)]
   have hf':decide (fuel<0)=true:=by simpa using hf
   go_wp2
   go_ret
   exact⟨xak HE.out.symm,hR1.bel⟩
  have hf':decide (fuel<0)=false:=by simpa using hf
  by_cases hg:400<fuel
  ·have HE:Hid (xap X s name args fuel=3):=by show _=_;unfold xap;rw[if_neg (by rw[hnb];simp),if_neg h4,if_pos (Or.inr hg)]
   have hg':decide (400<fuel)=true:=by simpa using hg
   go_wp2
   go_ret
   exact⟨xak HE.out.symm,hR1.bel⟩
  have hg':decide (400<fuel)=false:=by simpa using hg
  have HE:Hid (xap X s name args fuel=if xas X.heap.length s≠0 then xas X.heap.length s else xbe (fun _ v=>xas X.heap.length v) 0 args):=by show _=_;unfold xap;rw[if_neg (by rw[hnb];simp),if_neg h4,if_neg (by omega)]
  clear hnb hf hg;have hvw:=fun w=>xeg s (X.heap.length:Int) w
  generalize xas X.heap.length s=ws at *;go_wp2_with fail;refine (hvw _).mono ?_;rintro e w2' ⟨rfl,hb2⟩;have hR2:=hR1.later hb2;clear w0 w1 w2 c0 c1 c2 c3 hR1 hb2 hvw;obtain⟨-,w0,w1,w2,c0,c1,c2,c3⟩:=id hR2
  by_cases hws:ws=0
  ·have hws':(ws != 0)=false:=by simpa using hws
   rw[if_neg (by simpa using hws)] at HE
   clear hws;go_wp2;clear w0 w1 w2 c0 c1 c2 c3
   go_loopg [37] args.length (fun gk c wr=>∃ j:Nat,j+gk=args.length/\c=.int .i64 j/\WcR w (.slice ac nc cc) (.slice ah X.heap.length ch) X.ez s name (.slice aa args.length ca) wr/\∀ i y,i<j->args[i]?=some y->xas X.heap.length y=0)
   case atStart=>exact⟨0,by omega,rfl,hR2,fun i y hi=>by omega⟩
   case round=>
    clear hR2;obtain⟨j,hj,rfl,hRr,hok⟩:=hrel;have HO:=hid hok;clear hok;obtain⟨-,w0,w1,w2,c0,c1,c2,c3⟩:=id hRr
    by_cases hlt:j<args.length
    ·have hx:args[j]?=some args[j]:=by simp[hlt]
     have HX:=hid hx;generalize args[j]=y at *;obtain⟨b,o,rfl,-,v0,v1⟩:=hrow j y hx;simp only[Nat.add_zero] at v0;have u0:=qzA hRr.bel v0;have u1:=qzA hRr.bel v1;clear v0 v1 hrow hx;have hj1:(j:Int)<(args.length:Int):=by omega
     have hj0:(0:Int)<=(j:Int):=by omega
     have hvw:=fun w=>xeg y (X.heap.length:Int) w
     obtain⟨wy,hwy⟩:∃ wy,wy=xas X.heap.length y:=⟨_,rfl⟩;rw[← hwy] at hvw;have HWY:=hid hwy;clear hwy;have hRa:=hRr.later (xaj wr (.cells #[.int .i64 y.k,.int .i64 y.n] 27));have y0:(wr.alloc (.cells #[.int .i64 y.k,.int .i64 y.n] 27)).cell? ⟨wr.heap.size,0,none⟩=some (.int .i64 y.k):=xaa _ _ _ _ rfl 0;have y1:(wr.alloc (.cells #[.int .i64 y.k,.int .i64 y.n] 27)).cell? ⟨wr.heap.size,1,none⟩=some (.int .i64 y.n):=xaa _ _ _ _ rfl 1
     go_upto_region 13 with (fail)
     clear w0 w1 w2 c0 c1 c2 c3 u0 u1 hRr;generalize (wr.alloc (.cells #[.int .i64 y.k,.int .i64 y.n] 27))=V at *;obtain⟨-,w0,w1,w2,c0,c1,c2,c3⟩:=id hRa;go_wp2_with fail;refine (hvw _).mono ?_;rintro e w5 ⟨rfl,hb5⟩;have hR5:=hRa.later hb5;clear w0 w1 w2 c0 c1 c2 c3 hRa hb5 hvw y0 y1
     by_cases hz:wy=0
     ·have hz':(wy != 0)=false:=by simpa using hz
      go_wp2
      go_roundg (gk-1)
      case measure=>omega
      case rel=>
       refine⟨j+1,by omega,by go_num,hR5,fun i y' hi hy=>?_⟩
       by_cases hij:i=j
       ·subst hij;rw[HX.out] at hy;cases hy;rw[← HWY.out];exact hz
       ·exact HO.out i y' (by omega) hy
     ·have hz':(wy != 0)=true:=by simpa using hz
      go_wp2
      go_ret
      refine⟨xak ?_,hR5.bel⟩;have:=xc4 (f:=fun _ v=>xas X.heap.length v) (k:=0) HX.out (by rw[← HWY.out];exact hz) (fun i y' hi hy=>HO.out i y' hi hy)
      rw[HE.out,this,HWY.out]
    ·obtain rfl:j=args.length:=by omega
     go_wp2
     go_ret
     refine⟨xak ?_,hRr.bel⟩;rw[HE.out,xc2 fun i y hy=>HO.out i y (xae hy) hy]
  ·have hws':(ws != 0)=true:=by simpa using hws
   rw[if_pos hws] at HE;go_wp2
   go_ret
   exact⟨xak HE.out.symm,hR2.bel⟩
theorem xlS {hs:List QO}{v:QV}{o:QO}(hk:v.k=4)(h:xdt hs v=some o):xar hs v=o.cls:=by
 unfold xar;rw[if_neg (by omega),if_neg (by omega),if_neg (by omega),h];rfl
theorem xkO {hs:List QO}{v:QV}(hk:v.k<0\/3<v.k)(h:xdt hs v=none):xar hs v=0:=by
 unfold xar;rw[if_neg (by omega),if_neg (by omega),if_neg (by omega),h];rfl
theorem xf1 {P:Nat->Prop}(hs:List QO)(hv:Value)(v:QV)(w:World)(h:xaC P w hv hs):Calls Tryz.prog 34 #[hv,VV v] w fun e w'=>e=.returned (.int .i64 (xar hs v))/\Below w.heap.size w w':=by
 have hb1:=xaj w (.cells #[.int .i64 v.k,.int .i64 v.n] 27);have h1:=h.later xaD hb1;have b0:(w.alloc (.cells #[.int .i64 v.k,.int .i64 v.n] 27)).cell? ⟨w.heap.size,0,none⟩=some (.int .i64 v.k):=xaa _ _ _ _ rfl 0;have b1:(w.alloc (.cells #[.int .i64 v.k,.int .i64 v.n] 27)).cell? ⟨w.heap.size,1,none⟩=some (.int .i64 v.n):=xaa _ _ _ _ rfl 1;obtain⟨a,cap,rfl,-,hcap,-,-⟩:=id h;unfold maxLen at hcap;clear h;go_enter Tryz.func34,Tryz.ntmps34
 go_upto_region 1 with (fail)
 generalize (w.alloc (.cells #[.int .i64 v.k,.int .i64 v.n] 27))=W at *
 cases hi:xdr hs.length v with
 | true=>
  obtain⟨j,o,hj,hjl,hjo,hob⟩:=xe6 hi;have hk:v.k=4:=by unfold xdr at hi;have:=of_decide_eq_true hi;exact this.1
  have HE:=hid (xlS hk hob);have hk':(v.k == 4)=true:=by simpa using hk
  rw[hj] at b1;obtain⟨a',cap',e,-,-,-,hrow⟩:=h1
  cases e
  obtain⟨b,of,rfl,-,e0,-⟩:=hrow j o hjo;simp only[Nat.add_zero] at e0;have hj1:(j:Int)<(hs.length:Int):=by omega
  have hj0:(0:Int)<=(j:Int):=by omega
  clear hj hjo hob hrow hk hi;go_wp2
  go_ret
  exact⟨xak HE.out.symm,hb1⟩
 | false=>
  have hN:=xdO hi;have hi':¬ (v.k=4/\0<=v.n/\v.n<hs.length):=by unfold xdr at hi;exact of_decide_eq_false hi
  have HC0:=hid fun h=>xkO (hs:=hs) (v:=v) h hN
  have HC:Hid (v.k=0->xar hs v=1):=fun h=>by unfold xar;rw[if_pos h]
  have HC1:Hid (v.k=1\/v.k=2->xar hs v=2):=fun h=>by unfold xar;rw[if_neg (by omega),if_pos h]
  have HC3:Hid (v.k=3->xar hs v=3):=fun h=>by unfold xar;rw[if_neg (by omega),if_neg (by omega),if_pos h]
  clear h1 hi hN
  by_cases hk:v.k<0\/3<v.k
  ·have HE:=hid (HC0.out hk)
   by_cases h4:v.k=4
   ·have h4':(v.k == 4)=true:=by simpa using h4
    by_cases hn:0<=v.n
    ·have hn2:¬ v.n<(hs.length:Int):=by omega
     go_wp2
     go_ret
     exact⟨xak HE.out.symm,hb1⟩
    ·go_wp2
     go_ret
     exact⟨xak HE.out.symm,hb1⟩
   ·have h4':(v.k == 4)=false:=by simpa using h4
    by_cases hneg:v.k<0
    ·go_wp2
     go_ret
     exact⟨xak HE.out.symm,hb1⟩
    ·have h3:3<v.k:=by omega
     go_wp2
     go_ret
     exact⟨xak HE.out.symm,hb1⟩
  ·have h4':(v.k == 4)=false:=by simp;omega
   obtain⟨m,hm,hm4⟩:∃ m:Nat,v.k=(m:Int)/\m<4:=⟨v.k.toNat,by omega,by omega⟩
   have e1:¬ v.k<0:=by omega
   have e2:¬ 3<v.k:=by omega
   clear hk hi'
   match m,hm4 with
   | 0,_=>have hm0:v.k=0:=hm;rw[hm0] at b0 h4' e1 e2;have k0:=fun y=>qzA (xaj W y) b0;have HE:=hid (HC.out hm);clear HC HC0 HC1 HC3 hm hm0;go_wp2;go_ret;exact⟨xak HE.out.symm,xah hb1 (xaj _ _)⟩
   | 1,_=>have hm0:v.k=1:=hm;rw[hm0] at b0 h4' e1 e2;have k0:=fun y=>qzA (xaj W y) b0;have HE:=hid (HC1.out (Or.inl hm));clear HC HC0 HC1 HC3 hm hm0;go_wp2;go_ret;exact⟨xak HE.out.symm,xah hb1 (xaj _ _)⟩
   | 2,_=>have hm0:v.k=2:=hm;rw[hm0] at b0 h4' e1 e2;have k0:=fun y=>qzA (xaj W y) b0;have HE:=hid (HC1.out (Or.inr hm));clear HC HC0 HC1 HC3 hm hm0;go_wp2;go_ret;exact⟨xak HE.out.symm,xah hb1 (xaj _ _)⟩
   | 3,_=>have hm0:v.k=3:=hm;rw[hm0] at b0 h4' e1 e2;have k0:=fun y=>qzA (xaj W y) b0;have HE:=hid (HC3.out hm);clear HC HC0 HC1 HC3 hm hm0;go_wp2;go_ret;exact⟨xak HE.out.symm,xah hb1 (xaj _ _)⟩
theorem xdZ (b:Bool)(w:World):Calls Tryz.prog 67 #[.bool b] w fun e w'=>e=.returned (VV ⟨if b then 2 else 1,0⟩)/\Below w.heap.size w w':=by
 go_enter Tryz.func67,Tryz.ntmps67
 cases b
 ·go_wp2;refine qzK (v:=VV ⟨1,0⟩) ?_ rfl ⟨rfl,xaj _ _⟩
  simp[results,Tryz.results67,go_sem]
 ·go_wp2;refine qzK (v:=VV ⟨2,0⟩) ?_ rfl ⟨rfl,xaj _ _⟩
  simp[results,Tryz.results67,go_sem]
end Go.Proofs.YtapbeiccodnniaaGreat
