/- A part. -/
import Derived.Test.YtapbeiccodnniaaGreatM41
namespace Go.Proofs.YtapbeiccodnniaaGreat
open Go.ChangeShapes Go.WideShapes Go.ChangeAt Go.RowKit
set_option linter.unusedSimpArgs false
set_option linter.unusedVariables false
set_option maxHeartbeats 8000000
set_option maxRecDepth 8000
theorem xg2 {P Q:Nat->Prop}(xs:List QI)(va vb:Value)(w:World)(ha:xa5 P w va xs)(hb:xa5 Q w vb xs):Calls Tryz.prog 29 #[va,vb] w fun e w'=>e=.returned (.bool true)/\Below w.heap.size w w':=by
 obtain⟨ad,cap,rfl,hl,hcap,hby,hrow⟩:=ha;obtain⟨ad',cap',rfl,hl',hcap',hby',hrow'⟩:=hb;go_enter Tryz.func29,Tryz.ntmps29;go_wp2
 go_loopg [13] xs.length (fun g c wr=>∃ j:Nat,j+g=xs.length/\c=.int .i64 j/\∃ n,wr=w.drewN n)
 case atStart=>exact⟨0,by omega,rfl,0,rfl⟩
 case round=>
  obtain⟨j,hj,rfl,nn,rfl⟩:=hrel
  by_cases hlt:j<xs.length
  ·obtain⟨b,o,rfl,-,q0,q1,q2,q3,q4,-⟩:=hrow j xs[j] (by simp[hlt])
   obtain⟨b',o',rfl,-,k0,k1,k2,k3,k4,-⟩:=hrow' j xs[j] (by simp[hlt])
   generalize xs[j]=x at *;simp only[Nat.add_zero] at q0 k0;have hj1:(j:Int)<(xs.length:Int):=by omega
   have hj0:(0:Int)<=(j:Int):=by omega
   clear hrow hrow';go_wp2
   go_quiet (fail)
   go_wp2
   go_roundg (gk-1)
   case measure=>omega
   case rel=>exact⟨j+1,by omega,by go_num,_,rfl⟩
  ·go_wp2
   go_ret
   exact⟨rfl,below_drewN (qzL _ _) _⟩
set_option maxRecDepth 100000 in
theorem xlT {P Q:Nat->Prop}(X:QW)(ca ha cb hb:Value)(w:World)(h1:xai P w ca X.cz)(h2:xaC P w ha X.heap)(h3:xai Q w cb X.cz)(h4:xaC Q w hb X.heap):Calls Tryz.prog 9 #[WV ca ha X.ez,WV cb hb X.ez] w fun e w'=>e=.returned (.bool true)/\Below w.heap.size w w':=by
 obtain⟨ad,cap,rfl,hl,hcap,hby,hrow⟩:=h1;obtain⟨ah,kh,rfl,hlh,hkh,hbh,hrh⟩:=h2;obtain⟨ad',cap',rfl,hl',hcap',hby',hrow'⟩:=h3;obtain⟨ah',kh',rfl,hlh',hkh',hbh',hrh'⟩:=h4;unfold maxLen at hcap hcap' hkh hkh';go_enter Tryz.func9,Tryz.ntmps9;go_wp2;have hW:=xca w (Obj.cells #[Value.slice ad X.cz.length cap,Value.slice ah X.heap.length kh,Value.int .i64 X.ez] 25) (Obj.cells #[Value.slice ad' X.cz.length cap',Value.slice ah' X.heap.length kh',Value.int .i64 X.ez] 25);have a1:((w.alloc (Obj.cells #[Value.slice ad X.cz.length cap,Value.slice ah X.heap.length kh,Value.int .i64 X.ez] 25)).alloc (Obj.cells #[Value.slice ad' X.cz.length cap',Value.slice ah' X.heap.length kh',Value.int .i64 X.ez] 25)).cell? ⟨w.heap.size,1,none⟩=some (Value.slice ah X.heap.length kh):=qzA (xaj _ _) (by rw[xaa _ _ _ _ rfl];rfl)
 have b0:((w.alloc (Obj.cells #[Value.slice ad X.cz.length cap,Value.slice ah X.heap.length kh,Value.int .i64 X.ez] 25)).alloc (Obj.cells #[Value.slice ad' X.cz.length cap',Value.slice ah' X.heap.length kh',Value.int .i64 X.ez] 25)).cell? ⟨w.heap.size+1,0,none⟩=some (Value.slice ad' X.cz.length cap'):=by rw[xaa _ _ _ _ (by simp)];rfl
 have b1:((w.alloc (Obj.cells #[Value.slice ad X.cz.length cap,Value.slice ah X.heap.length kh,Value.int .i64 X.ez] 25)).alloc (Obj.cells #[Value.slice ad' X.cz.length cap',Value.slice ah' X.heap.length kh',Value.int .i64 X.ez] 25)).cell? ⟨w.heap.size+1,1,none⟩=some (Value.slice ah' X.heap.length kh'):=by rw[xaa _ _ _ _ (by simp)];rfl
 generalize ((w.alloc (Obj.cells #[Value.slice ad X.cz.length cap,Value.slice ah X.heap.length kh,Value.int .i64 X.ez] 25)).alloc (Obj.cells #[Value.slice ad' X.cz.length cap',Value.slice ah' X.heap.length kh',Value.int .i64 X.ez] 25))=W at *
 go_loopg [40] X.cz.length (fun g c wr=>∃ j:Nat,j+g=X.cz.length/\c=.int .i64 j/\Below W.heap.size W wr)
 case atStart=>exact⟨0,by omega,rfl,qzL _ _⟩
 case round=>
  obtain⟨j,hj,rfl,hbel⟩:=hrel;have hbw:=xah hW hbel;have b0':=qzA hbel b0
  by_cases hlt:j<X.cz.length
  ·obtain⟨b,o,rfl,-,p0,p1,p2,-,sv,p3,hms⟩:=hrow j X.cz[j] (by simp[hlt])
   obtain⟨b',o',rfl,-,q0,q1,q2,-,sv',q3,hms'⟩:=hrow' j X.cz[j] (by simp[hlt])
   generalize X.cz[j]=x at *;simp only[Nat.add_zero] at p0 q0;replace p0:=qzA hbw p0;replace p1:=qzA hbw p1;replace p2:=qzA hbw p2;replace p3:=qzA hbw p3;replace q0:=fun y=>qzA (xaj wr y) (qzA hbw q0)
   replace q1:=fun y=>qzA (xaj wr y) (qzA hbw q1)
   replace q2:=fun y=>qzA (xaj wr y) (qzA hbw q2)
   replace q3:=fun y=>qzA (xaj wr y) (qzA hbw q3)
   have b0'':=fun y=>qzA (xaj wr y) b0'
   replace hms:=hms.later xbi hbw;replace hms':=hms'.later xbi hbw;obtain⟨am,km,rfl,hlm,hkm,hbm,hrm⟩:=id hms;obtain⟨am',km',rfl,hlm',hkm',hbm',hrm'⟩:=id hms';unfold maxLen at hkm hkm';have hj1:(j:Int)<(X.cz.length:Int):=by omega
   have hj0:(0:Int)<=(j:Int):=by omega
   go_wp2;have hB2:=xca wr (Obj.cells #[Value.string x.name,Value.int .i64 x.super,Value.int .i64 x.slots,Value.slice am x.mz.length km] 54) (Obj.cells #[Value.string x.name,Value.int .i64 x.super,Value.int .i64 x.slots,Value.slice am' x.mz.length km'] 54);have m1:((wr.alloc (Obj.cells #[Value.string x.name,Value.int .i64 x.super,Value.int .i64 x.slots,Value.slice am x.mz.length km] 54)).alloc (Obj.cells #[Value.string x.name,Value.int .i64 x.super,Value.int .i64 x.slots,Value.slice am' x.mz.length km'] 54)).cell? ⟨wr.heap.size+1,3,none⟩=some (Value.slice am' x.mz.length km'):=by rw[xaa _ _ _ _ (by simp)];rfl
   obtain⟨go,hgo⟩:∃ go,go=gk:=⟨_,rfl⟩;have hBW:=xah hbel hB2;replace hms:=hms.later xbi hB2;replace hms':=hms'.later xbi hB2;clear p0 p1 p2 p3 q0 q1 q2 q3 b0' b0'' hrm hrm' hB2 hbw hbel;generalize hBx:wr.heap.size+1=Bx at *;generalize ((wr.alloc (Obj.cells #[Value.string x.name,Value.int .i64 x.super,Value.int .i64 x.slots,Value.slice am x.mz.length km] 54)).alloc (Obj.cells #[Value.string x.name,Value.int .i64 x.super,Value.int .i64 x.slots,Value.slice am' x.mz.length km'] 54))=W2 at *
   go_loopg [81] x.mz.length (fun g c wi=>∃ k:Nat,k+g=x.mz.length/\c=.int .i64 k/\Below W2.heap.size W2 wi)
   case atStart=>exact⟨0,by omega,rfl,qzL _ _⟩
   case round=>
    obtain⟨k,hk,rfl,hbi⟩:=hrel
    by_cases hkl:k<x.mz.length
    ·obtain⟨am0,km0,e0,-,-,-,hrm⟩:=hms.later xbi hbi;simp only[Value.slice.injEq] at e0;obtain⟨rfl,-,rfl⟩:=e0;obtain⟨am0',km0',e0',-,-,-,hrm'⟩:=hms'.later xbi hbi;simp only[Value.slice.injEq] at e0';obtain⟨rfl,-,rfl⟩:=e0';obtain⟨b,o,rfl,-,p0,p1,p2,p3,-,sv,p4,hcc⟩:=hrm k x.mz[k] (by simp[hkl])
     obtain⟨b',o',rfl,-,q0,q1,q2,q3,-,sv',q4,hcc'⟩:=hrm' k x.mz[k] (by simp[hkl])
     generalize x.mz[k]=y at *;simp only[Nat.add_zero] at p0 q0;replace q0:=fun y=>qzA (xaj wr y) q0
     replace q1:=fun y=>qzA (xaj wr y) q1
     replace q2:=fun y=>qzA (xaj wr y) q2
     replace q3:=fun y=>qzA (xaj wr y) q3
     replace q4:=fun y=>qzA (xaj wr y) q4
     have m1':=fun y=>qzA (xaj wr y) (qzA hbi m1)
     obtain⟨ac,kc,rfl⟩:=hcc.get;obtain⟨ac',kc',rfl⟩:=hcc'.get;have hk1:(k:Int)<(x.mz.length:Int):=by omega
     have hk0:(0:Int)<=(k:Int):=by omega
     clear hrm hrm'
     go_wp2_with (go_at_call 29;refine (xg2 y.code _ _ _ (hcc.later xbl (by first | exact xca _ _ _ | exact (xca _ _ _).drew)) (hcc'.later xbl (by first | exact xca _ _ _ | exact (xca _ _ _).drew))).mono ?_;rintro e w5 ⟨rfl,hb5⟩)
     go_roundg (gk-1)
     case measure=>omega
     case rel=>exact⟨k+1,by omega,by go_num,xah hbi (xah (xca _ _ _) hb5)⟩
    ·go_wp2
     go_roundg (go-1)
     case measure=>omega
     case rel=>exact⟨j+1,by omega,by go_num,xah hBW hbi⟩
  ·have a1':=qzA hbel a1;have b1':=qzA hbel b1;have hbw:=xah hW hbel;clear hrow hrow' b0' a1 b1 b0;go_wp2;have hW3:=hbw;generalize wr=W3 at *
   go_loopg [130] X.heap.length (fun g c wr=>∃ j:Nat,j+g=X.heap.length/\c=.int .i64 j/\Below W3.heap.size W3 wr)
   case atStart=>exact⟨0,by omega,rfl,qzL _ _⟩
   case round=>
    obtain⟨j,hj,rfl,hbel⟩:=hrel;have cb1:=qzA hbel b1';have hbw:=xah hW3 hbel
    by_cases hlt:j<X.heap.length
    ·obtain⟨b,o,rfl,-,hv1,sv,hv2,hsl⟩:=hrh j X.heap[j] (by simp[hlt])
     obtain⟨b',o',rfl,-,hv1',sv',hv2',hsl'⟩:=hrh' j X.heap[j] (by simp[hlt])
     generalize X.heap[j]=x at *;simp only[Nat.add_zero] at hv1 hv1';have u1:=qzA hbw hv1;have u2:=qzA hbw hv2;have u1':=qzA hbw hv1';have u2':=qzA hbw hv2';replace hsl:=hsl.later xaK hbw;replace hsl':=hsl'.later xaK hbw;clear hv1 hv2 hv1' hv2';obtain⟨ad2,cap2,rfl,hl2,hcap2,hby2,-⟩:=id hsl;obtain⟨ad2',cap2',rfl,hl2',hcap2',hby2',-⟩:=id hsl';unfold maxLen at hcap2 hcap2';have hj1:(j:Int)<(X.heap.length:Int):=by omega
     have hj0:(0:Int)<=(j:Int):=by omega
     have k1:=fun x=>qzA (xaj wr x) u1
     have k2:=fun x=>qzA (xaj wr x) u2
     have k1':=fun x=>qzA (xaj wr x) u1'
     have k2':=fun x=>qzA (xaj wr x) u2'
     have kb:=fun x=>qzA (xaj wr x) cb1
     go_wp2
     go_quiet (fail)
     go_wp2;have hD:Below wr.heap.size wr ((wr.alloc (Obj.cells #[Value.int .i64 x.cls,Value.slice ad2 x.slots.length cap2] 64)).drewN nq):=below_drewN (xaj _ _) nq;have m1:((wr.alloc (Obj.cells #[Value.int .i64 x.cls,Value.slice ad2 x.slots.length cap2] 64)).drewN nq).cell? ⟨wr.heap.size,1,none⟩=some (Value.slice ad2 x.slots.length cap2):=by simp
     have m2:=qzA hD u2';have mb:=qzA hD cb1;have hBW:=xah hbel hD;obtain⟨Bx,hBx⟩:∃ Bx,Bx=wr.heap.size:=⟨_,rfl⟩;rw[← hBx] at m1 ⊢;clear hBx;replace hsl:=hsl.later xaK hD;replace hsl':=hsl'.later xaK hD;clear k1 k2 k1' k2' kb u1 u2 u1' u2' cb1 hD;generalize (wr.alloc (Obj.cells #[Value.int .i64 x.cls,Value.slice ad2 x.slots.length cap2] 64)).drewN nq=W2 at *;clear hbel hbw;obtain⟨go,hgo⟩:∃ go,go=gk:=⟨_,rfl⟩
     go_loopg [160] x.slots.length (fun g c wi=>∃ k:Nat,k+g=x.slots.length/\c=.int .i64 k/\∃ n,wi=W2.drewN n)
     case atStart=>exact⟨0,by omega,rfl,0,rfl⟩
     case round=>
      obtain⟨k,hk,rfl,nn,rfl⟩:=hrel
      by_cases hkl:k<x.slots.length
      ·obtain⟨a0,c0,e0,-,-,-,hr2⟩:=hsl;simp only[Value.slice.injEq] at e0;obtain⟨rfl,-,rfl⟩:=e0;obtain⟨a0',c0',e0',-,-,-,hr2'⟩:=hsl';simp only[Value.slice.injEq] at e0';obtain⟨rfl,-,rfl⟩:=e0';obtain⟨b2,o2,rfl,-,q1,q2⟩:=hr2 k x.slots[k] (by simp[hkl])
       obtain⟨b3,o3,rfl,-,q3,q4⟩:=hr2' k x.slots[k] (by simp[hkl])
       generalize x.slots[k]=y at *;simp only[Nat.add_zero] at q1 q3;have hk1:(k:Int)<(x.slots.length:Int):=by omega
       have hk0:(0:Int)<=(k:Int):=by omega
       clear hr2 hr2';go_wp2
       go_quiet (fail)
       go_wp2
       go_roundg (gk-1)
       case measure=>omega
       case rel=>exact⟨k+1,by omega,by go_num,_,rfl⟩
      ·go_wp2
       go_roundg (go-1)
       case measure=>omega
       case rel=>exact⟨j+1,by omega,by go_num,below_drewN hBW nn⟩
    ·go_wp2
     go_ret
     exact⟨rfl,hbw⟩
theorem xos (d:Nat)(k n k' n':Int)(w:World):(Op.equalIn (d+2) 27 (.agg #[.int .i64 k,.int .i64 n]) (.agg #[.int .i64 k',.int .i64 n'])).run Tryz.prog w=.ok (k == k' && n == n') w:=by
 have u3:=Tryz.underlying3;have a3:=Tryz.isAgg3;have z3:=Tryz.sizeOf3;have hS:Tryz.prog.underlying 27=some (.struct (Tryz.prog.fieldsOf 27)):=by kernel_rfl
 have hp:Tryz.prog.stoodInHeld 27=false:=by kernel_rfl
 rw[run_equalIn_struct w (d+1) 27 _ _ hS hp];simp only[Program.fieldsOf,Tryz.underlying27];go_simp
 by_cases h1:k=k'<;>by_cases h3:n=n'<;>simp[h1,h3]
theorem xoG (x y:Ran)(w:World):(Op.equalIn 10000 37 (RnV x) (RnV y)).run Tryz.prog w=.ok (x.v.k == y.v.k && x.v.n == y.v.n && x.err == y.err && x.sz_ == y.sz_) w:=by
 have u3:=Tryz.underlying3;have a3:=Tryz.isAgg3;have z3:=Tryz.sizeOf3;have u31:=Tryz.underlying33;have a31:=Tryz.isAgg33;have z31:=Tryz.sizeOf33;have a27:=Tryz.isAgg27;have z27:=Tryz.sizeOf27;have hV:=xos 9997;have hS:Tryz.prog.underlying 37=some (.struct (Tryz.prog.fieldsOf 37)):=by kernel_rfl
 have hp:Tryz.prog.stoodInHeld 37=false:=by kernel_rfl
 rw[show (10000:Nat)=9999+1 from rfl,run_equalIn_struct w 9999 37 _ _ hS hp]
 simp only[Program.fieldsOf,Tryz.underlying37];clear hS hp;go_simp
 by_cases h1:x.v.k=y.v.k<;>by_cases h2:x.v.n=y.v.n<;>by_cases h3:x.err=y.err<;>by_cases h4:x.sz_=y.sz_<;>simp[h1,h2,h3,h4]
theorem eqlR (x y:Ran)(w:World):(binOp .eql 37 (RnV x) (RnV y)).run Tryz.prog w=.ok (.bool (x.v.k == y.v.k && x.v.n == y.v.n && x.err == y.err && x.sz_ == y.sz_)) w:=by
 rw[run_eql_struct,xoG]
 rfl
theorem xmd (x:Ran):(x.v.k == x.v.k && x.v.n == x.v.n && x.err == x.err && x.sz_ == x.sz_)=true:=by simp
structure TwB (w:World)(cv hv:Value)(ep:Int)(s:QV)(name:ByteArray)(av:Value)(wr:World):Prop where
 wb:WtB w cv hv ep wr
 cb:wr.heap[w.heap.size+1]?=some (.cells #[.int .i64 s.k,.int .i64 s.n,.string name,av] 30 (0,0))
theorem TwB.later {w:World}{cv hv:Value}{ep:Int}{s:QV}{name:ByteArray}{av:Value}{wr ws:World}(h:TwB w cv hv ep s name av wr)(hb:Below wr.heap.size wr ws):TwB w cv hv ep s name av ws:=⟨h.wb.later hb,xac h.cb hb⟩
theorem xq8 (w:World)(cv hv:Value)(ep:Int)(s:QV)(name:ByteArray)(av:Value):TwB w cv hv ep s name av ((w.alloc (.cells #[cv,hv,.int .i64 ep] 25)).alloc (.cells #[.int .i64 s.k,.int .i64 s.n,.string name,av] 30)):=
 ⟨(xpY w cv hv ep).later (xaj _ _),by have:=qzJ (w.alloc (.cells #[cv,hv,.int .i64 ep] 25)) (.cells #[.int .i64 s.k,.int .i64 s.n,.string name,av] 30);simpa using this⟩
theorem TwB.al {w:World}{cv hv:Value}{ep:Int}{s:QV}{name:ByteArray}{av:Value}{wr:World}(h:TwB w cv hv ep s name av wr):(wr.cell? ⟨w.heap.size,0,none⟩=some cv/\wr.cell? ⟨w.heap.size,1,none⟩=some hv/\wr.cell? ⟨w.heap.size,2,none⟩=some (.int .i64 ep))/\wr.cell? ⟨w.heap.size+1,0,none⟩=some (.int .i64 s.k)/\wr.cell? ⟨w.heap.size+1,1,none⟩=some (.int .i64 s.n)/\wr.cell? ⟨w.heap.size+1,2,none⟩=some (.string name)/\wr.cell? ⟨w.heap.size+1,3,none⟩=some av:=
 ⟨⟨h.wb.a0,h.wb.a1,h.wb.a2⟩,bw4 h.cb⟩
theorem xqw {P Q R S:Nat->Prop}(X:QW)(s:QV)(name:ByteArray)(args:List QV)(fuel:Int)(l:List QE)(ts:List QT)(cv hv av lv tv:Value)(w:World)(hC:xai P w cv X.cz)(hH:xaC P w hv X.heap)(hA:xaB Q w av args)(hL:xbk R w lv l)(hT:xbc S w tv ts)(hn:name.size<=140737488351232)(hf:CFew ⟨l,ts,0,0⟩ 401) :
  Calls Tryz.prog 3 #[WV cv hv X.ez,ClV s name av,.int .i64 fuel,lv,tv] w fun e w'=>e=.returned (.bool true)/\Below w.heap.size w w':=by
 obtain⟨ac,cc,rfl,-⟩:=id hC;obtain⟨ah,ch,rfl,-⟩:=id hH;obtain⟨aa,ca,rfl,-⟩:=id hA;obtain⟨al,kl,rfl,-⟩:=id hL;obtain⟨at',kt,rfl,-⟩:=id hT;have hR:=xq8 w (.slice ac X.cz.length cc) (.slice ah X.heap.length ch) X.ez s name (.slice aa args.length ca);go_enter Tryz.func3,Tryz.ntmps3;go_wp2_with fail;generalize ((w.alloc (.cells #[.slice ac X.cz.length cc,.slice ah X.heap.length ch,.int .i64 X.ez] 25)).alloc (.cells #[.int .i64 s.k,.int .i64 s.n,.string name,.slice aa args.length ca] 30))=W0 at *;refine (xjO X _ _ _ (hC.later xaz hR.wb.bel) (hH.later xaD hR.wb.bel)).mono ?_;rintro e w1 ⟨rfl,hb1⟩;replace hR:=hR.later hb1
 clear hb1;obtain⟨⟨a0,a1,a2⟩,p0,p1,p2,p3⟩:=hR.al
 by_cases hX:xaJ X=0
 ·rw[hX];go_wp2_with fail;refine (xqv X l _ _ _ _ (hC.later xaz hR.wb.bel) (hH.later xaD hR.wb.bel) (hL.later xbw hR.wb.bel)).mono ?_;rintro e w2 ⟨rfl,hb2⟩;replace hR:=hR.later hb2;clear hb2 a0 a1 a2 p0 p1 p2 p3;obtain⟨⟨a0,a1,a2⟩,p0,p1,p2,p3⟩:=hR.al
  by_cases hk:xpn X l=true
  ·obtain⟨hT1,hI1⟩:=xqr hX hk;rw[hk];have hca:=fun (w':World) (hb:Below w.heap.size w w')=>xfH X hX s name args fuel l ts _ _ _ _ _ w' (hC.later xaz hb) (hH.later xaD hb) (hA.later xaK hb) (hL.later xbw hb) (hT.later xbZ hb) hn (hf.mono (by omega))
   have hrc:=fun (w':World) (hb:Below w.heap.size w w')=>xqd X hX s name args fuel l ts _ _ _ _ _ w' (hC.later xaz hb) (hH.later xaD hb) (hA.later xaK hb) (hL.later xbw hb) (hT.later xbZ hb) hn hf hI1
   rw[xqi hX hT1,xq5 _ _ hI1] at hca;generalize xqa X ⟨l,ts,0,0⟩ (xpw X s name args fuel)=st at *;generalize xcI X s name args fuel=r at *;clear hT1 hI1 hk hX;go_wp2_with fail;refine (hca w2 hR.wb.bel).mono ?_;rintro e Y ⟨hbY,cvY,hvY,lvY,tvY,rfl,c1,c2,c3,c4⟩;obtain⟨b1,j1,rfl⟩:∃ a c,cvY=.slice a X.cz.length c:=c1.get;obtain⟨b2,j2,rfl⟩:∃ a c,hvY=.slice a r.heap.length c:=c2.get;obtain⟨b3,j3,rfl⟩:∃ a c,lvY=.slice a st.cells.length c:=c3.get;obtain⟨b4,j4,rfl⟩:∃ a c,tvY=.slice a st.ts.length c:=c4.get;dsimp only at *;clear a0 a1 a2 p0 p1 p2 p3 hca;have hbo:=xaj Y (OB2 (.slice b1 X.cz.length j1) (.slice b2 r.heap.length j2) X.ez r (.slice b3 st.cells.length j3) (.slice b4 st.ts.length j4) st)
   have hoB:=qzJ Y (OB2 (.slice b1 X.cz.length j1) (.slice b2 r.heap.length j2) X.ez r (.slice b3 st.cells.length j3) (.slice b4 st.ts.length j4) st);replace hR:=hR.later (xah hbY hbo);replace c1:=c1.later xaz hbo;replace c2:=c2.later xaD hbo;replace c3:=c3.later xbw hbo;replace c4:=c4.later xbZ hbo;clear hbY hbo
   go_upto_region 4 with (fail)
   generalize (Y.alloc (OB2 (.slice b1 X.cz.length j1) (.slice b2 r.heap.length j2) X.ez r (.slice b3 st.cells.length j3) (.slice b4 st.ts.length j4) st))=Z at *;generalize Y.heap.size=ob at *;obtain⟨⟨a0,a1,a2⟩,p0,p1,p2,p3⟩:=hR.al;go_wp2_with fail;refine (hrc Z hR.wb.bel).mono ?_;rintro e V ⟨hbV,cvV,hvV,lvV,tvV,rfl,d1,d2,d3,d4⟩;obtain⟨x1,y1,rfl⟩:∃ a c,cvV=.slice a X.cz.length c:=d1.get;obtain⟨x2,y2,rfl⟩:∃ a c,hvV=.slice a r.heap.length c:=d2.get;obtain⟨x3,y3,rfl⟩:∃ a c,lvV=.slice a st.cells.length c:=d3.get;obtain⟨x4,y4,rfl⟩:∃ a c,tvV=.slice a st.ts.length c:=d4.get;clear a0 a1 a2 p0 p1 p2 p3 hrc
   have hbo:=xaj V (OB2 (.slice x1 X.cz.length y1) (.slice x2 r.heap.length y2) X.ez r (.slice x3 st.cells.length y3) (.slice x4 st.ts.length y4) st);have hpB:=qzJ V (OB2 (.slice x1 X.cz.length y1) (.slice x2 r.heap.length y2) X.ez r (.slice x3 st.cells.length y3) (.slice x4 st.ts.length y4) st);have hbVo:=xah hbV hbo;replace hoB:=xac hoB hbVo;have hbel:=xah hR.wb.bel hbVo;replace c1:=c1.later xaz hbVo;replace c2:=c2.later xaD hbVo;replace c3:=c3.later xbw hbVo;replace c4:=c4.later xbZ hbVo;replace d1:=d1.later xaz hbo;replace d2:=d2.later xaD hbo;replace d3:=d3.later xbw hbo;replace d4:=d4.later xbZ hbo
   clear hbV hbo hbVo hR
   go_upto_region 5 with (fail)
   generalize (V.alloc (OB2 (.slice x1 X.cz.length y1) (.slice x2 r.heap.length y2) X.ez r (.slice x3 st.cells.length y3) (.slice x4 st.ts.length y4) st))=U at *;generalize V.heap.size=pb at *;obtain⟨o0,o1,o2,o3,o4,o5,o6,o7,o8,o9,o10⟩:=xoL hoB;obtain⟨q0,q1,q2,q3,q4,q5,q6,q7,q8,q9,q10⟩:=xoL hpB;have hqr:∀ w,(binOp .eql 37 (RnV r) (RnV r)).run Tryz.prog w=.ok (.bool true) w:=fun w=>by rw[eqlR,xmd]
   go_wp2_with fail;refine (xlT ⟨X.cz,r.heap,X.ez⟩ _ _ _ _ U c1 c2 d1 d2).mono ?_;rintro e F ⟨rfl,hbF⟩;replace hoB:=xac hoB hbF;replace hpB:=xac hpB hbF;replace hbel:=xah hbel hbF;replace c3:=c3.later xbw hbF;replace c4:=c4.later xbZ hbF;replace d3:=d3.later xbw hbF;replace d4:=d4.later xbZ hbF;clear o0 o1 o2 o3 o4 o5 o6 o7 o8 o9 o10 q0 q1 q2 q3 q4 q5 q6 q7 q8 q9 q10 hbF c1 c2 d1 d2;obtain⟨o0,o1,o2,o3,o4,o5,o6,o7,o8,o9,o10⟩:=xoL hoB;obtain⟨q0,q1,q2,q3,q4,q5,q6,q7,q8,q9,q10⟩:=xoL hpB;go_wp2_with fail;refine (xp1 st.cells _ _ F c3 d3).mono ?_;rintro e G ⟨rfl,hbF⟩;replace hoB:=xac hoB hbF;replace hpB:=xac hpB hbF
   replace hbel:=xah hbel hbF;replace c4:=c4.later xbZ hbF;replace d4:=d4.later xbZ hbF;clear o0 o1 o2 o3 o4 o5 o6 o7 o8 o9 o10 q0 q1 q2 q3 q4 q5 q6 q7 q8 q9 q10 hbF c3 d3;obtain⟨o0,o1,o2,o3,o4,o5,o6,o7,o8,o9,o10⟩:=xoL hoB;obtain⟨q0,q1,q2,q3,q4,q5,q6,q7,q8,q9,q10⟩:=xoL hpB;go_wp2_with fail;refine (xpH st.ts _ _ G c4 d4).mono ?_;rintro e J ⟨rfl,hbF⟩;replace hoB:=xac hoB hbF;replace hpB:=xac hpB hbF;replace hbel:=xah hbel hbF;clear o0 o1 o2 o3 o4 o5 o6 o7 o8 o9 o10 q0 q1 q2 q3 q4 q5 q6 q7 q8 q9 q10 hbF c4 d4;obtain⟨o0,o1,o2,o3,o4,o5,o6,o7,o8,o9,o10⟩:=xoL hoB;obtain⟨q0,q1,q2,q3,q4,q5,q6,q7,q8,q9,q10⟩:=xoL hpB
   go_wp2;refine qzK (v:=.bool true) ?_ rfl ⟨rfl,hbel⟩
   simp[results,Tryz.results3,go_sem]
  ·have hk':xpn X l=false:=by simpa using hk
   rw[hk'];go_wp2;refine qzK (v:=.bool true) ?_ rfl ⟨rfl,hR.wb.bel⟩
   simp[results,Tryz.results3,go_sem]
 ·have hd:(xaJ X != 0)=true:=by simpa using hX
  go_wp2;refine qzK (v:=.bool true) ?_ rfl ⟨rfl,hR.wb.bel⟩
  simp[results,Tryz.results3,go_sem]
section
variable {H:Type} {enc:TypeId × Value->H} {w:World} {base:Nat} {spare:Nat->Bool} {held:Bool}
theorem xns:Tryz.prog.cellsOf 30=4:=by kernel_rfl
theorem xqB {r:Reach}{b0:Nat}{v:Value}{d:DataW H}{p:List MemPlace}(hv:Value.okWide Tryz.prog w r b0 30 v)(h:DataW.Trod enc Tryz.prog w base spare held 30 v d p)(hw:∀ n∈d.weights Tryz.prog 30,n<=140737488351232):∃ (s:QV) (name:ByteArray) (av:Value) (args:List QV),v=ClV s name av/\name.size<=140737488351232/\xaB Tru w av args:=by
 obtain⟨cs,rfl,hsz⟩:=okWide_struct Tryz.underlying30 hv;obtain⟨c0,c1,c2,c3,rfl⟩:=Joins.array4 (hsz.trans xns);obtain⟨fuel,hf0⟩:=h;obtain⟨xs,k,hk,hxy,_,hxl,hf⟩:=DataW.trod_struct Tryz.underlying30 hf0
 match xs,hxl with
 | [y0,y1,y2],_=>
  have g0:=hf 0 _ rfl;have g1:=hf 1 _ rfl;have g2:=hf 2 _ rfl
  simp[Value.cells,xld,xiE,xls] at g0 g1 g2
  simp only[Prod.mk.injEq] at hxy;obtain⟨rfl,-⟩:=hxy;obtain⟨y,hy⟩:=xiw rfl g0;obtain⟨z0,z1⟩:=hy
  simp at z0 z1
  subst z0 z1;obtain⟨s,e1,e2,-⟩:=DataW.trod_string Tryz.underlying9 g1
  simp at e1
  subst e1;obtain⟨l,hl⟩:=xg3 g2 (fun q hq=>hw q (xbx (j:=2) (xs:=[y0,y1,y2]) Tryz.underlying30 rfl rfl q hq))
  have hs:s.size<=140737488351232:=by
   have:=hw s.data.toList.length (xbx (j:=1) (xs:=[y0,y1,y2]) Tryz.underlying30 rfl rfl _ (by rw[e2];simp[DataW.weights]))
   simpa using this
  exact⟨y,s,_,l,rfl,hs,hl⟩
end
theorem xrc:Tryz.prog.bytesOf 72=16:=by kernel_rfl
theorem xrg:Tryz.prog.bytesOf 97=56:=by kernel_rfl
theorem xrk:Tryz.prog.bytesOf 70=72:=by kernel_rfl
theorem xqA:Tryz.prog.cellsOf 67=3:=by kernel_rfl
theorem xrd:Tryz.prog.cellsOf 72=2:=by kernel_rfl
theorem xrh:Tryz.prog.cellsOf 97=4:=by kernel_rfl
theorem xq9:Tryz.prog.cellsOf 70=6:=by kernel_rfl
theorem xqy:Tryz.prog.cellsOf 68=1:=by kernel_rfl
theorem xru:Tryz.prog.cellsOf 4=1:=by kernel_rfl
theorem IsRow.weak {α:Type}{E:Lay α}{sz bytes:Nat}{P:Nat->Prop}{w:World}{v:Value}{xs:List α}(h:IsRow E sz bytes P w v xs):IsRow E sz 0 P w v xs/\xs.length*bytes<=140737488351232:=by
 obtain⟨ad,cap,h1,h2,h3,h4,h5⟩:=h
 exact⟨⟨ad,cap,h1,h2,h3,by simp,h5⟩,h4⟩
def xqk {α:Type}(E:Lay α)(q:α->Prop):Lay α:=fun P w f x=>E P w f x/\q x
theorem Good.and {α:Type}{E:Lay α}{sz:Nat}(G:Good E sz)(q:α->Prop):Good (xqk E q) sz where
 move h hl hk hf:=⟨G.move h.1 hl hk hf,h.2⟩
 there h:=G.there h.1
 pos:=G.pos
theorem IsRow.split {α:Type}{E:Lay α}{q:α->Prop}{sz bytes:Nat}{P:Nat->Prop}{w:World}{v:Value}{xs:List α}(h:IsRow (xqk E q) sz bytes P w v xs):IsRow E sz bytes P w v xs/\∀ x∈xs,q x:=by
 obtain⟨ad,cap,h1,h2,h3,h4,h5⟩:=h;refine⟨⟨ad,cap,h1,h2,h3,h4,fun i x hx=>?_⟩,fun x hx=>?_⟩
 ·obtain⟨b,o,e1,e2,e3⟩:=h5 i x hx
  exact⟨b,o,e1,e2,e3.1⟩
 ·obtain⟨i,hi,rfl⟩:=List.mem_iff_getElem.1 hx;obtain⟨b,o,e1,e2,e3⟩:=h5 i xs[i] (by simp)
  exact e3.2
section
variable {H:Type} {enc:TypeId × Value->H} {w:World} {base:Nat} {spare:Nat->Bool} {held:Bool}
theorem xp4 {n:Nat}{cs:List Value}{x:DataW H × List MemPlace}(hl:cs.length=3)(h:DataW.trod enc Tryz.prog w base spare held n 67 cs=some x):∃ y,xrw Tru w (fun k=>cs[k]?) y:=by
 obtain⟨xs,k,hk,hxy,_,hxl,hf⟩:=DataW.trod_struct Tryz.underlying67 h
 match xs,hxl,cs,hl with
 | [y0,y1,y2],_,[v0,v1,v2],_=>
  have g0:=hf 0 _ rfl;have g1:=hf 1 _ rfl;have g2:=hf 2 _ rfl
  simp[xgN,xiE] at g0 g1 g2
  obtain⟨a,e0,-,-⟩:=DataW.trod_int Tryz.underlying3 g0;obtain⟨s,e1,-,-⟩:=DataW.trod_string Tryz.underlying9 g1;obtain⟨b,e2,-,-⟩:=DataW.trod_int Tryz.underlying3 g2
  simp at e0 e1 e2
  subst e0 e1 e2
  exact⟨⟨a,s,b⟩,rfl,rfl,rfl⟩
theorem xqK {n:Nat}{cs:List Value}{x:DataW H × List MemPlace}(hl:cs.length=2)(h:DataW.trod enc Tryz.prog w base spare held n 72 cs=some x):∃ y,xda Tru w (fun k=>cs[k]?) y:=by
 obtain⟨xs,k,hk,hxy,_,hxl,hf⟩:=DataW.trod_struct Tryz.underlying72 h
 match xs,hxl,cs,hl with
 | [y0,y1],_,[v0,v1],_=>
  have g0:=hf 0 _ rfl;have g1:=hf 1 _ rfl
  simp[xgN] at g0 g1
  obtain⟨a,e0,-,-⟩:=DataW.trod_int Tryz.underlying3 g0;obtain⟨b,e1,-,-⟩:=DataW.trod_int Tryz.underlying3 g1
  simp at e0 e1
  subst e0 e1
  exact⟨⟨a,b⟩,rfl,rfl⟩
theorem xpW {fuel:Nat}{v:Value}{x:DataW H × List MemPlace}(h:DataW.trod enc Tryz.prog w base spare held fuel 68 [v]=some x)(hw:∀ n∈x.1.weights Tryz.prog 68,n<=140737488351232):∃ xs,IsRow xda 2 16 Tru w v xs:=
 xdA xbq Tryz.underlying68 xrd xrc (by omega) (fun n cs x hl h hw=>xqK hl h) h hw
theorem xpE {T e:TypeId}(ht:Tryz.prog.underlying T=some (.slice e)){r:Reach}{b0:Nat}{v:Value}{d:DataW H}{p:List MemPlace}(hv:Value.okWide Tryz.prog w r b0 T v)(h:DataW.Trod enc Tryz.prog w base spare held T v d p):∃ fuel,DataW.trod enc Tryz.prog w base spare held fuel T [v]=some (d,p):=by
 obtain⟨fuel,hf⟩:=h;obtain⟨a,len,cap,rfl⟩:=okWide_slice ht hv
 exact⟨fuel,hf⟩
theorem xp3 {n:Nat}{cs:List Value}{x:DataW H × List MemPlace}(hl:cs.length=4)(h:DataW.trod enc Tryz.prog w base spare held n 97 cs=some x)(hw:∀ n∈x.1.weights Tryz.prog 97,n<=140737488351232):∃ y,xqk xf7 (fun x=>x.lz.length*16<=140737488351232) Tru w (fun k=>cs[k]?) y:=by
 obtain⟨xs,k,hk,hxy,_,hxl,hf⟩:=DataW.trod_struct Tryz.underlying97 h
 match xs,hxl,cs,hl with
 | [y0,y1],_,[v0,v1,v2,v3],_=>
  have g0:=hf 0 _ rfl;have g1:=hf 1 _ rfl
  simp[xqA,xqy] at g0 g1
  obtain⟨s,q0,q1,q2⟩:=xp4 rfl g0;rw[hxy] at hw;obtain⟨ls,hls⟩:=xpW g1 (fun q hq=>hw q (xbx (j:=1) (xs:=[y0,y1]) Tryz.underlying97 rfl rfl q hq))
  obtain⟨k1,k2⟩:=hls.weak;refine⟨⟨s,ls⟩,⟨q0,q1,q2,_,rfl,k1⟩,k2⟩
theorem xpP {fuel:Nat}{v:Value}{x:DataW H × List MemPlace}(h:DataW.trod enc Tryz.prog w base spare held fuel 32 [v]=some x)(hw:∀ n∈x.1.weights Tryz.prog 32,n<=140737488351232):∃ xs,xbc Tru w v xs/\xs.length*56<=140737488351232/\∀ x∈xs,x.lz.length*16<=140737488351232:=by
 obtain⟨xs,hx⟩:=xdA (xbZ.and _) Tryz.underlying32 xrh xrg (by omega) (fun n cs x hl h hw=>xp3 hl h hw) h hw
 obtain⟨h1,h2⟩:=hx.split
 exact⟨xs,h1.weak.1,h1.weak.2,h2⟩
theorem xqf {n:Nat}{cs:List Value}{x:DataW H × List MemPlace}(hl:cs.length=6)(h:DataW.trod enc Tryz.prog w base spare held n 70 cs=some x)(hw:∀ n∈x.1.weights Tryz.prog 70,n<=140737488351232):∃ y,xqk xhq (fun x=>x.lz.length*16<=140737488351232) Tru w (fun k=>cs[k]?) y:=by
 obtain⟨xs,k,hk,hxy,_,hxl,hf⟩:=DataW.trod_struct Tryz.underlying70 h
 match xs,hxl,cs,hl with
 | [y0,y1,y2,y3],_,[v0,v1,v2,v3,v4,v5],_=>
  have g0:=hf 0 _ rfl;have g1:=hf 1 _ rfl;have g2:=hf 2 _ rfl;have g3:=hf 3 _ rfl
  simp[xqA,xqy,xgN,xru] at g0 g1 g2 g3
  obtain⟨s,q0,q1,q2⟩:=xp4 rfl g0;obtain⟨a,e1,-,-⟩:=DataW.trod_int Tryz.underlying3 g1;obtain⟨b,e2,-⟩:=DataW.trod_bool Tryz.underlying4 g2
  simp at e1 e2
  subst e1 e2;rw[hxy] at hw;obtain⟨ls,hls⟩:=xpW g3 (fun q hq=>hw q (xbx (j:=3) (xs:=[y0,y1,y2,y3]) Tryz.underlying70 rfl rfl q hq))
  obtain⟨k1,k2⟩:=hls.weak;refine⟨⟨s,a,b,ls⟩,⟨q0,q1,q2,rfl,rfl,_,rfl,k1⟩,k2⟩
theorem xp5 {fuel:Nat}{v:Value}{x:DataW H × List MemPlace}(h:DataW.trod enc Tryz.prog w base spare held fuel 31 [v]=some x)(hw:∀ n∈x.1.weights Tryz.prog 31,n<=140737488351232):∃ xs,xbk Tru w v xs/\xs.length*72<=140737488351232/\∀ x∈xs,x.lz.length*16<=140737488351232:=by
 obtain⟨xs,hx⟩:=xdA (xbw.and _) Tryz.underlying31 xq9 xrk (by omega) (fun n cs x hl h hw=>xqf hl h hw) h hw
 obtain⟨h1,h2⟩:=hx.split
 exact⟨xs,h1.weak.1,h1.weak.2,h2⟩
end
end Go.Proofs.YtapbeiccodnniaaGreat
