/- A part. -/
import Derived.Test.YtaodadfahifbpaaGreatQ1
import Derived.Deep.RegionHeld
namespace Go.Proofs.YtaodadfahifbpaaGreat
open Go.ChangeShapes Go.WideShapes Go.ChangeAt Go.RowKit
set_option linter.unusedSimpArgs false
set_option linter.unusedVariables false
set_option maxHeartbeats 8000000
set_option maxRecDepth 8000
theorem xid {P Q:Nat->Prop}(xs:List QI)(va vb:Value)(w:World)(ha:xaR P w va xs)(hb:xaR Q w vb xs):Calls Tryz.prog 28 #[va,vb] w fun e w'=>e=.returned (.bool true)/\Below w.heap.size w w':=by
 obtain⟨ad,cap,rfl,hl,hcap,hby,hrow⟩:=ha;obtain⟨ad',cap',rfl,hl',hcap',hby',hrow'⟩:=hb;go_enter Tryz.func28,Tryz.ntmps28;go_wp2
 go_loopg [13] xs.length (fun g c wr=>∃ j:Nat,j+g=xs.length/\c=.int .i64 j/\∃ n,wr=w.drewN n)
 case atStart=>exact⟨0,by omega,rfl,0,rfl⟩
 case round=>
  obtain⟨j,hj,rfl,nn,rfl⟩:=hrel
  by_cases hlt:j<xs.length
  ·obtain⟨b,o,rfl,-,q0,q1,q2,q3,q4,-⟩:=hrow j xs[j] (by simp[hlt])
   obtain⟨b',o',rfl,-,k0,k1,k2,k3,k4,-⟩:=hrow' j xs[j] (by simp[hlt])
   generalize xs[j]=x at *;simp only[Nat.add_zero] at q0 k0;have hj1:(j:Int)<(xs.length:Int):=by omega
   have hj0:(0:Int)<=(j:Int):=by omega
   clear hrow hrow';go_wp2
   go_quiet (fail)
   go_wp2
   go_roundg (gk-1)
   case measure=>omega
   case rel=>exact⟨j+1,by omega,by go_num,_,rfl⟩
  ·go_wp2
   go_ret
   exact⟨rfl,below_drewN (qzL _ _) _⟩
set_option maxRecDepth 100000 in
theorem xon {P Q:Nat->Prop}(X:QW)(ca ha cb hb:Value)(w:World)(h1:xai P w ca X.cz)(h2:xaD P w ha X.heap)(h3:xai Q w cb X.cz)(h4:xaD Q w hb X.heap):Calls Tryz.prog 11 #[WV ca ha X.ez,WV cb hb X.ez] w fun e w'=>e=.returned (.bool true)/\Below w.heap.size w w':=by
 obtain⟨ad,cap,rfl,hl,hcap,hby,hrow⟩:=h1;obtain⟨ah,kh,rfl,hlh,hkh,hbh,hrh⟩:=h2;obtain⟨ad',cap',rfl,hl',hcap',hby',hrow'⟩:=h3;obtain⟨ah',kh',rfl,hlh',hkh',hbh',hrh'⟩:=h4;unfold maxLen at hcap hcap' hkh hkh';go_enter Tryz.func11,Tryz.ntmps11;go_wp2;have hW:=xbP w (Obj.cells #[Value.slice ad X.cz.length cap,Value.slice ah X.heap.length kh,Value.int .i64 X.ez] 25) (Obj.cells #[Value.slice ad' X.cz.length cap',Value.slice ah' X.heap.length kh',Value.int .i64 X.ez] 25);have a1:((w.alloc (Obj.cells #[Value.slice ad X.cz.length cap,Value.slice ah X.heap.length kh,Value.int .i64 X.ez] 25)).alloc (Obj.cells #[Value.slice ad' X.cz.length cap',Value.slice ah' X.heap.length kh',Value.int .i64 X.ez] 25)).cell? ⟨w.heap.size,1,none⟩=some (Value.slice ah X.heap.length kh):=qzA (xak _ _) (by rw[xaa _ _ _ _ rfl];rfl)
 have b0:((w.alloc (Obj.cells #[Value.slice ad X.cz.length cap,Value.slice ah X.heap.length kh,Value.int .i64 X.ez] 25)).alloc (Obj.cells #[Value.slice ad' X.cz.length cap',Value.slice ah' X.heap.length kh',Value.int .i64 X.ez] 25)).cell? ⟨w.heap.size+1,0,none⟩=some (Value.slice ad' X.cz.length cap'):=by rw[xaa _ _ _ _ (by simp)];rfl
 have b1:((w.alloc (Obj.cells #[Value.slice ad X.cz.length cap,Value.slice ah X.heap.length kh,Value.int .i64 X.ez] 25)).alloc (Obj.cells #[Value.slice ad' X.cz.length cap',Value.slice ah' X.heap.length kh',Value.int .i64 X.ez] 25)).cell? ⟨w.heap.size+1,1,none⟩=some (Value.slice ah' X.heap.length kh'):=by rw[xaa _ _ _ _ (by simp)];rfl
 generalize ((w.alloc (Obj.cells #[Value.slice ad X.cz.length cap,Value.slice ah X.heap.length kh,Value.int .i64 X.ez] 25)).alloc (Obj.cells #[Value.slice ad' X.cz.length cap',Value.slice ah' X.heap.length kh',Value.int .i64 X.ez] 25))=W at *
 go_loopg [40] X.cz.length (fun g c wr=>∃ j:Nat,j+g=X.cz.length/\c=.int .i64 j/\Below W.heap.size W wr)
 case atStart=>exact⟨0,by omega,rfl,qzL _ _⟩
 case round=>
  obtain⟨j,hj,rfl,hbel⟩:=hrel;have hbw:=xaf hW hbel;have b0':=qzA hbel b0
  by_cases hlt:j<X.cz.length
  ·obtain⟨b,o,rfl,-,p0,p1,p2,-,sv,p3,hms⟩:=hrow j X.cz[j] (by simp[hlt])
   obtain⟨b',o',rfl,-,q0,q1,q2,-,sv',q3,hms'⟩:=hrow' j X.cz[j] (by simp[hlt])
   generalize X.cz[j]=x at *;simp only[Nat.add_zero] at p0 q0;replace p0:=qzA hbw p0;replace p1:=qzA hbw p1;replace p2:=qzA hbw p2;replace p3:=qzA hbw p3;replace q0:=fun y=>qzA (xak wr y) (qzA hbw q0)
   replace q1:=fun y=>qzA (xak wr y) (qzA hbw q1)
   replace q2:=fun y=>qzA (xak wr y) (qzA hbw q2)
   replace q3:=fun y=>qzA (xak wr y) (qzA hbw q3)
   have b0'':=fun y=>qzA (xak wr y) b0'
   replace hms:=hms.later xbq hbw;replace hms':=hms'.later xbq hbw;obtain⟨am,km,rfl,hlm,hkm,hbm,hrm⟩:=id hms;obtain⟨am',km',rfl,hlm',hkm',hbm',hrm'⟩:=id hms';unfold maxLen at hkm hkm';have hj1:(j:Int)<(X.cz.length:Int):=by omega
   have hj0:(0:Int)<=(j:Int):=by omega
   go_wp2;have hB2:=xbP wr (Obj.cells #[Value.string x.name,Value.int .i64 x.super,Value.int .i64 x.slots,Value.slice am x.mz.length km] 71) (Obj.cells #[Value.string x.name,Value.int .i64 x.super,Value.int .i64 x.slots,Value.slice am' x.mz.length km'] 71);have m1:((wr.alloc (Obj.cells #[Value.string x.name,Value.int .i64 x.super,Value.int .i64 x.slots,Value.slice am x.mz.length km] 71)).alloc (Obj.cells #[Value.string x.name,Value.int .i64 x.super,Value.int .i64 x.slots,Value.slice am' x.mz.length km'] 71)).cell? ⟨wr.heap.size+1,3,none⟩=some (Value.slice am' x.mz.length km'):=by rw[xaa _ _ _ _ (by simp)];rfl
   obtain⟨go,hgo⟩:∃ go,go=gk:=⟨_,rfl⟩;have hBW:=xaf hbel hB2;replace hms:=hms.later xbq hB2;replace hms':=hms'.later xbq hB2;clear p0 p1 p2 p3 q0 q1 q2 q3 b0' b0'' hrm hrm' hB2 hbw hbel;generalize hBx:wr.heap.size+1=Bx at *;generalize ((wr.alloc (Obj.cells #[Value.string x.name,Value.int .i64 x.super,Value.int .i64 x.slots,Value.slice am x.mz.length km] 71)).alloc (Obj.cells #[Value.string x.name,Value.int .i64 x.super,Value.int .i64 x.slots,Value.slice am' x.mz.length km'] 71))=W2 at *
   go_loopg [81] x.mz.length (fun g c wi=>∃ k:Nat,k+g=x.mz.length/\c=.int .i64 k/\Below W2.heap.size W2 wi)
   case atStart=>exact⟨0,by omega,rfl,qzL _ _⟩
   case round=>
    obtain⟨k,hk,rfl,hbi⟩:=hrel
    by_cases hkl:k<x.mz.length
    ·obtain⟨am0,km0,e0,-,-,-,hrm⟩:=hms.later xbq hbi;simp only[Value.slice.injEq] at e0;obtain⟨rfl,-,rfl⟩:=e0;obtain⟨am0',km0',e0',-,-,-,hrm'⟩:=hms'.later xbq hbi;simp only[Value.slice.injEq] at e0';obtain⟨rfl,-,rfl⟩:=e0';obtain⟨b,o,rfl,-,p0,p1,p2,p3,-,sv,p4,hcc⟩:=hrm k x.mz[k] (by simp[hkl])
     obtain⟨b',o',rfl,-,q0,q1,q2,q3,-,sv',q4,hcc'⟩:=hrm' k x.mz[k] (by simp[hkl])
     generalize x.mz[k]=y at *;simp only[Nat.add_zero] at p0 q0;replace q0:=fun y=>qzA (xak wr y) q0
     replace q1:=fun y=>qzA (xak wr y) q1
     replace q2:=fun y=>qzA (xak wr y) q2
     replace q3:=fun y=>qzA (xak wr y) q3
     replace q4:=fun y=>qzA (xak wr y) q4
     have m1':=fun y=>qzA (xak wr y) (qzA hbi m1)
     obtain⟨ac,kc,rfl⟩:=hcc.get;obtain⟨ac',kc',rfl⟩:=hcc'.get;have hk1:(k:Int)<(x.mz.length:Int):=by omega
     have hk0:(0:Int)<=(k:Int):=by omega
     clear hrm hrm'
     go_wp2_with (go_at_call 28;refine (xid y.code _ _ _ (hcc.later xa2 (by first | exact xbP _ _ _ | exact (xbP _ _ _).drew)) (hcc'.later xa2 (by first | exact xbP _ _ _ | exact (xbP _ _ _).drew))).mono ?_;rintro e w5 ⟨rfl,hb5⟩)
     go_roundg (gk-1)
     case measure=>omega
     case rel=>exact⟨k+1,by omega,by go_num,xaf hbi (xaf (xbP _ _ _) hb5)⟩
    ·go_wp2
     go_roundg (go-1)
     case measure=>omega
     case rel=>exact⟨j+1,by omega,by go_num,xaf hBW hbi⟩
  ·have a1':=qzA hbel a1;have b1':=qzA hbel b1;have hbw:=xaf hW hbel;clear hrow hrow' b0' a1 b1 b0;go_wp2;have hW3:=hbw;generalize wr=W3 at *
   go_loopg [130] X.heap.length (fun g c wr=>∃ j:Nat,j+g=X.heap.length/\c=.int .i64 j/\Below W3.heap.size W3 wr)
   case atStart=>exact⟨0,by omega,rfl,qzL _ _⟩
   case round=>
    obtain⟨j,hj,rfl,hbel⟩:=hrel;have cb1:=qzA hbel b1';have hbw:=xaf hW3 hbel
    by_cases hlt:j<X.heap.length
    ·obtain⟨b,o,rfl,-,hv1,sv,hv2,hsl⟩:=hrh j X.heap[j] (by simp[hlt])
     obtain⟨b',o',rfl,-,hv1',sv',hv2',hsl'⟩:=hrh' j X.heap[j] (by simp[hlt])
     generalize X.heap[j]=x at *;simp only[Nat.add_zero] at hv1 hv1';have u1:=qzA hbw hv1;have u2:=qzA hbw hv2;have u1':=qzA hbw hv1';have u2':=qzA hbw hv2';replace hsl:=hsl.later xa1 hbw;replace hsl':=hsl'.later xa1 hbw;clear hv1 hv2 hv1' hv2';obtain⟨ad2,cap2,rfl,hl2,hcap2,hby2,-⟩:=id hsl;obtain⟨ad2',cap2',rfl,hl2',hcap2',hby2',-⟩:=id hsl';unfold maxLen at hcap2 hcap2';have hj1:(j:Int)<(X.heap.length:Int):=by omega
     have hj0:(0:Int)<=(j:Int):=by omega
     have k1:=fun x=>qzA (xak wr x) u1
     have k2:=fun x=>qzA (xak wr x) u2
     have k1':=fun x=>qzA (xak wr x) u1'
     have k2':=fun x=>qzA (xak wr x) u2'
     have kb:=fun x=>qzA (xak wr x) cb1
     go_wp2
     go_quiet (fail)
     go_wp2;have hD:Below wr.heap.size wr ((wr.alloc (Obj.cells #[Value.int .i64 x.cls,Value.slice ad2 x.slots.length cap2] 61)).drewN nq):=below_drewN (xak _ _) nq;have m1:((wr.alloc (Obj.cells #[Value.int .i64 x.cls,Value.slice ad2 x.slots.length cap2] 61)).drewN nq).cell? ⟨wr.heap.size,1,none⟩=some (Value.slice ad2 x.slots.length cap2):=by simp
     have m2:=qzA hD u2';have mb:=qzA hD cb1;have hBW:=xaf hbel hD;obtain⟨Bx,hBx⟩:∃ Bx,Bx=wr.heap.size:=⟨_,rfl⟩;rw[← hBx] at m1 ⊢;clear hBx;replace hsl:=hsl.later xa1 hD;replace hsl':=hsl'.later xa1 hD;clear k1 k2 k1' k2' kb u1 u2 u1' u2' cb1 hD;generalize (wr.alloc (Obj.cells #[Value.int .i64 x.cls,Value.slice ad2 x.slots.length cap2] 61)).drewN nq=W2 at *;clear hbel hbw;obtain⟨go,hgo⟩:∃ go,go=gk:=⟨_,rfl⟩
     go_loopg [160] x.slots.length (fun g c wi=>∃ k:Nat,k+g=x.slots.length/\c=.int .i64 k/\∃ n,wi=W2.drewN n)
     case atStart=>exact⟨0,by omega,rfl,0,rfl⟩
     case round=>
      obtain⟨k,hk,rfl,nn,rfl⟩:=hrel
      by_cases hkl:k<x.slots.length
      ·obtain⟨a0,c0,e0,-,-,-,hr2⟩:=hsl;simp only[Value.slice.injEq] at e0;obtain⟨rfl,-,rfl⟩:=e0;obtain⟨a0',c0',e0',-,-,-,hr2'⟩:=hsl';simp only[Value.slice.injEq] at e0';obtain⟨rfl,-,rfl⟩:=e0';obtain⟨b2,o2,rfl,-,q1,q2⟩:=hr2 k x.slots[k] (by simp[hkl])
       obtain⟨b3,o3,rfl,-,q3,q4⟩:=hr2' k x.slots[k] (by simp[hkl])
       generalize x.slots[k]=y at *;simp only[Nat.add_zero] at q1 q3;have hk1:(k:Int)<(x.slots.length:Int):=by omega
       have hk0:(0:Int)<=(k:Int):=by omega
       clear hr2 hr2';go_wp2
       go_quiet (fail)
       go_wp2
       go_roundg (gk-1)
       case measure=>omega
       case rel=>exact⟨k+1,by omega,by go_num,_,rfl⟩
      ·go_wp2
       go_roundg (go-1)
       case measure=>omega
       case rel=>exact⟨j+1,by omega,by go_num,below_drewN hBW nn⟩
    ·go_wp2
     go_ret
     exact⟨rfl,hbw⟩
structure QS where
 cls:Int
 name:ByteArray
 at':Int
structure QL where
 cls:Int
 found:Int
structure QT where
 site:QS
 lz:List QL
def xn8:Lay QL:=fun _ _ f x=>f 0=some (.int .i64 x.cls)/\f 1=some (.int .i64 x.found)
abbrev xek:=IsRow xn8 2 0
def xrR:Lay QS:=fun _ _ f x=>f 0=some (.int .i64 x.cls)/\f 1=some (.string x.name)/\f 2=some (.int .i64 x.at')
def xmu:Lay QT:=fun P w f x=>f 0=some (.int .i64 x.site.cls)/\f 1=some (.string x.site.name)/\f 2=some (.int .i64 x.site.at')/\∃ v,f 3=some v/\xek P w v x.lz
abbrev xbi:=IsRow xmu 4 0
theorem xff:Good xn8 2 where
 move h _ _ hf:=⟨hf 0 (by omega) _ h.1,hf 1 (by omega) _ h.2⟩
 there h k hk:=by
  obtain⟨h0,h1⟩:=h
  match k,hk with
  | 0,_=>exact⟨_,h0,rfl⟩
  | 1,_=>exact⟨_,h1,rfl⟩
 pos:=by omega
theorem xd3:Good xmu 4 where
 move h hl hk hf:=by
  obtain⟨h0,h1,h2,v,h5,h6⟩:=h
  exact⟨hf 0 (by omega) _ h0,hf 1 (by omega) _ h1,hf 2 (by omega) _ h2,v,hf 3 (by omega) _ h5,h6.keep xff hk hl⟩
 there h k hk:=by
  obtain⟨h0,h1,h2,v,h5,h6⟩:=h
  match k,hk with
  | 0,_=>exact⟨_,h0,rfl⟩
  | 1,_=>exact⟨_,h1,rfl⟩
  | 2,_=>exact⟨_,h2,rfl⟩
  | 3,_=>exact⟨_,h5,xeQ h6⟩
 pos:=by omega
abbrev SV (x:QS):Value:=.agg #[.int .i64 x.cls,.string x.name,.int .i64 x.at']
abbrev LV (x:QL):Value:=.agg #[.int .i64 x.cls,.int .i64 x.found]
structure SiteAt (w:World)(b:Nat)(x:QS):Prop where
 c0:w.cell? ⟨b,0,none⟩=some (.int .i64 x.cls)
 c1:w.cell? ⟨b,1,none⟩=some (.string x.name)
 c2:w.cell? ⟨b,2,none⟩=some (.int .i64 x.at')
theorem SiteAt.later {w w':World}{b:Nat}{x:QS}(h:SiteAt w b x)(hb:Below w.heap.size w w'):SiteAt w' b x:=⟨qzA hb h.c0,qzA hb h.c1,qzA hb h.c2⟩
theorem xgt (w:World)(x:QS)(t:TypeId):SiteAt (w.alloc (.cells #[.int .i64 x.cls,.string x.name,.int .i64 x.at'] t)) w.heap.size x:=⟨by rw[xaa _ _ _ _ rfl];rfl,by rw[xaa _ _ _ _ rfl];rfl,by rw[xaa _ _ _ _ rfl];rfl⟩
def eqS (a b:QS):Bool:=a.cls == b.cls && (eqN a.name b.name && a.at' == b.at')
theorem neqS (x y:QS)(w:World):(binOp .neq 63 (SV x) (SV y)).run Tryz.prog w=.ok (.bool (!eqS x y)) w:=by
 have u3:=Tryz.underlying3;have a3:=Tryz.isAgg3;have z3:=Tryz.sizeOf3;have u9:=Tryz.underlying9;have a9:=Tryz.isAgg9;have z9:=Tryz.sizeOf9;have hS:Tryz.prog.underlying 63=some (.struct (Tryz.prog.fieldsOf 63)):=by kernel_rfl
 have hp:Tryz.prog.stoodInHeld 63=false:=by kernel_rfl
 rw[run_neq_struct,show (10000:Nat)=9999+1 from rfl,run_equalIn_struct w 9999 63 _ _ hS hp]
 simp only[Program.fieldsOf,Tryz.underlying63];go_simp;unfold eqS eqN
 by_cases h1:x.cls=y.cls<;>by_cases h2:x.name.toList=y.name.toList<;>by_cases h3:x.at'=y.at'<;>simp[h1,h2,h3]
theorem xpI (a b:ByteArray):eqN a b=true ↔ a=b:=by
 unfold eqN;rw[ByteArray.toList_eq,ByteArray.toList_eq];obtain⟨⟨x⟩⟩:=a;obtain⟨⟨y⟩⟩:=b
 simp
theorem xjs {α:Type}(p:α->Bool)(xs:List α):xcP p xs=-1\/∃ (j:Nat) (x:α),xcP p xs=(j:Int)/\xs[j]?=some x/\p x=true/\∀ i y,i<j->xs[i]?=some y->p y=false:=by
 unfold xcP
 cases h:xs.findIdx? p with
 | none=>left;rfl
 | some j=>
  right
  rw[List.findIdx?_eq_some_iff_getElem] at h;obtain⟨hj,hp,hn⟩:=h;refine⟨j,xs[j],rfl,by simp[hj],hp,fun i y hi hy=>?_⟩
  have:=hn i hi;rw[List.getElem?_eq_getElem (by omega)] at hy
  cases hy
  simpa using this
def xaP (xs:List QT)(s:QS):List QL:=(xs.filter fun t=>eqS t.site s).flatMap (·.lz)
theorem xiu (xs:List QT)(s:QS)(x:QT):xaP (xs++[x]) s=xaP xs s++if eqS x.site s then x.lz else []:=by
 unfold xaP;rw[List.filter_append,List.flatMap_append]
 by_cases h:eqS x.site s<;>simp[List.filter_cons,h]
theorem xfo {xs:List QT}{j:Nat}{x:QT}(hx:xs[j]?=some x)(s:QS):xaP (xs.take (j+1)) s=xaP (xs.take j) s++if eqS x.site s then x.lz else []:=by
 have hj:=xae hx;rw[List.take_succ_eq_append_getElem hj,xiu];rw[List.getElem?_eq_getElem hj] at hx
 cases hx
 rfl
theorem xh5 {α:Type}{xs:List α}{j:Nat}{x:α}(hx:xs[j]?=some x):xs.take (j+1)=xs.take j++[x]:=by
 have hj:=xae hx;rw[List.take_succ_eq_append_getElem hj];rw[List.getElem?_eq_getElem hj] at hx
 cases hx
 rfl
theorem xmN {P:Nat->Prop}{w:World}{v:Value}{ls:List QL}(h:xek P w v ls):xek (fun b=>b<w.heap.size) w v ls:=by
 obtain⟨ad,cap,h1,h2,h3,h4,h5⟩:=h;refine⟨ad,cap,h1,h2,h3,h4,fun i x hx=>?_⟩
 obtain⟨b,o,e,-,hE⟩:=h5 i x hx
 exact⟨b,o,e,World.block_lt_of_cell? _ _ hE.1,hE⟩
theorem xga {P:Nat->Prop}{w:World}{v:Value}{xs:List QT}(h:xbi P w v xs):xbi (fun b=>b<w.heap.size) w v xs:=by
 obtain⟨ad,cap,h1,h2,h3,h4,h5⟩:=h;refine⟨ad,cap,h1,h2,h3,h4,fun i x hx=>?_⟩
 obtain⟨b,o,e,-,k0,k1,k2,lv,k3,kl⟩:=h5 i x hx
 exact⟨b,o,e,World.block_lt_of_cell? _ _ k0,k0,k1,k2,lv,k3,xmN kl⟩
theorem xlF {P:Nat->Prop}(I:List QL->World->Prop)(m:Nat)(cap':Value)(xs:List QT)(s:QS)(v:Value)(w:World)(hI:I [] w)(hm:m<w.heap.size)(hPm:∀ b,P b->b≠m)
  (hX:∀ l w',I l w'->xbi P w' v xs) (hL:∀ l w' w'',I l w'->Below w'.heap.size w' w''->I l w'')
  (hF:∀ l x w',I l w'->Calls Tryz.prog 88 #[LV x,cap'] w' fun e w''=>e=.returned (.tuple #[])/\I (l++[x]) w''/\Keeps (fun b=>b≠m) w' w''/\w'.heap.size<=w''.heap.size) :
  Calls Tryz.prog 87 #[v,SV s,.func (.func 88) #[] #[cap']] w fun e w'=>e=.returned (.tuple #[])/\I (xaP xs s) w':=by
 obtain⟨ad,cap,rfl,hl,hcap,-,-⟩:=id (hX _ _ hI);unfold maxLen at hcap;have hs0:=xgt w s 63;have hI0:=hL _ _ _ hI (xak w (.cells #[.int .i64 s.cls,.string s.name,.int .i64 s.at'] 63));have hsz0:w.heap.size<(w.alloc (.cells #[.int .i64 s.cls,.string s.name,.int .i64 s.at'] 63)).heap.size:=by simp
 clear hI;go_enter Tryz.func87,Tryz.ntmps87;go_wp2
 go_loopg [12] xs.length (fun g c wr=>∃ j:Nat,j+g=xs.length/\c=.int .i64 j/\I (xaP (xs.take j) s) wr/\SiteAt wr w.heap.size s/\w.heap.size<wr.heap.size)
 case atStart=>exact⟨0,by omega,rfl,hI0,hs0,hsz0⟩
 case round=>
  obtain⟨j,hj,rfl,hIj,hsj,hzj⟩:=hrel;clear hI0 hs0 hsz0
  by_cases hlt:j<xs.length
  ·obtain⟨ad',cap'',e',-,-,-,hrow⟩:=hX _ _ hIj;simp only[Value.slice.injEq] at e';obtain⟨rfl,-,-⟩:=e';obtain⟨b,o,rfl,-,v0,v1,v2,sv,v3,hsl⟩:=hrow j xs[j] (by simp[hlt])
   have hxj:Hid (xs[j]?=some xs[j]):=by show _=_;simp[hlt]
   generalize xs[j]=x at *;have HT:Hid (xaP (xs.take (j+1)) s=xaP (xs.take j) s++if eqS x.site s then x.lz else []):=xfo hxj.out s;simp only[Nat.add_zero] at v0;obtain⟨ad2,cap2,rfl,hl2,hcap2,-,-⟩:=id hsl;unfold maxLen at hcap2;obtain⟨s0,s1,s2⟩:=id hsj;have s0':=fun y=>qzA (xak wr y) s0
   have s1':=fun y=>qzA (xak wr y) s1
   have s2':=fun y=>qzA (xak wr y) s2
   have he:=fun w=>neqS x.site s w
   clear hrow s0 s1 s2;have hj1:(j:Int)<(xs.length:Int):=by omega
   have hj0:(0:Int)<=(j:Int):=by omega
   have hbx:=xak wr (Obj.cells #[Value.int .i64 x.site.cls,Value.string x.site.name,Value.int .i64 x.site.at',Value.slice ad2 x.lz.length cap2] 68);have hzx:(wr.alloc (Obj.cells #[Value.int .i64 x.site.cls,Value.string x.site.name,Value.int .i64 x.site.at',Value.slice ad2 x.lz.length cap2] 68)).heap.size=wr.heap.size+1:=by simp
   by_cases hp:eqS x.site s=true
   ·have hp':(!eqS x.site s)=false:=by simp[hp]
    have HT':Hid (xaP (xs.take (j+1)) s=xaP (xs.take j) s++x.lz):=by show _=_;rw[HT.out,if_pos hp]
    rw[hp'] at he;clear hp hp';have hIx:=hL _ _ _ hIj hbx;have hsx:=hsj.later hbx;have hslx:=hsl.later xff hbx;go_wp2;generalize (wr.alloc (Obj.cells #[Value.int .i64 x.site.cls,Value.string x.site.name,Value.int .i64 x.site.at',Value.slice ad2 x.lz.length cap2] 68))=W1 at *;clear he s0' s1' s2' v0 v1 v2 v3 hIj hsj hsl
    go_loopg [23] x.lz.length (fun g c ws=>∃ q:Nat,q+g=x.lz.length/\c=.int .i64 q/\I (xaP (xs.take j) s++x.lz.take q) ws/\SiteAt ws w.heap.size s/\xek P ws (.slice ad2 x.lz.length cap2) x.lz/\w.heap.size<ws.heap.size)
    case atStart=>exact⟨0,by omega,rfl,by simpa using hIx,hsx,hslx,by omega⟩
    case round=>
     obtain⟨q,hq,rfl,hIq,hsq,hlq,hzq⟩:=hrel;clear hIx hsx hslx
     by_cases hltq:q<x.lz.length
     ·obtain⟨ad3,cap3,e3,-,-,-,hrow3⟩:=id hlq;simp only[Value.slice.injEq] at e3;obtain⟨rfl,-,-⟩:=e3;obtain⟨b3,o3,rfl,-,y0,y1⟩:=hrow3 q x.lz[q] (by simp[hltq])
      have hyq:Hid (x.lz[q]?=some x.lz[q]):=by show _=_;simp[hltq]
      generalize x.lz[q]=y at *;simp only[Nat.add_zero] at y0;have hq1:(q:Int)<(x.lz.length:Int):=by omega
      have hq0:(0:Int)<=(q:Int):=by omega
      have hby:=xak wr (Obj.cells #[Value.int .i64 y.cls,Value.int .i64 y.found] 65);have hIy:=hL _ _ _ hIq hby;have hsy:=hsq.later hby;clear hrow3;go_wp2_with fail;refine (hF _ y _ hIy).mono ?_;rintro e w1 ⟨rfl,hI1,hK1,hz1⟩;have hz1':wr.heap.size+1<=w1.heap.size:=by simpa using hz1
      go_wp2
      go_roundg (gk-1)
      case measure=>omega
      case rel=>
       have hmw:w.heap.size≠m:=by omega
       refine⟨q+1,by omega,by go_num,?_,?_,?_,by omega⟩
       ·rw[xh5 hyq.out,← List.append_assoc];exact hI1
       ·exact⟨hK1 _ _ _ hmw hsy.c0,hK1 _ _ _ hmw hsy.c1,hK1 _ _ _ hmw hsy.c2⟩
       ·exact (hlq.later xff hby).keep xff (hK1.mono hPm) fun _ h=>h
     ·obtain rfl:q=x.lz.length:=by omega
      go_wp2
      go_roundg (xs.length-(j+1))
      case measure=>omega
      case rel=>
       rw[List.take_of_length_le (qzC _)] at hIq
       exact⟨j+1,by omega,by go_num,by rw[HT'.out];exact hIq,hsq,hzq⟩
   ·have hp1:eqS x.site s=false:=by simpa using hp
    have hp':(!eqS x.site s)=true:=by simp[hp1]
    have HT':Hid (xaP (xs.take (j+1)) s=xaP (xs.take j) s):=by show _=_;rw[HT.out,if_neg (by simp[hp1])];simp
    rw[hp'] at he;clear hp hp' hp1;go_wp2
    go_roundg (gk-1)
    case measure=>omega
    case rel=>exact⟨j+1,by omega,by go_num,by rw[HT'.out];exact hL _ _ _ hIj hbx,hsj.later hbx,by omega⟩
  ·obtain rfl:j=xs.length:=by omega
   go_wp2;refine bodyPost_end (v:=.tuple #[]) (by simp[results,Tryz.results87,go_sem]) rfl ⟨rfl,?_⟩
   rw[List.take_of_length_le (qzC _)] at hIj
   exact hIj
theorem xly {P:Nat->Prop}(I:List QL->World->Prop)(m:Nat)(cap':Value)(xs:List QT)(s:QS)(v:Value)(w:World)(hI:I [] w)(hm:m<w.heap.size)(hPm:∀ b,P b->b≠m)
  (hX:∀ l w',I l w'->xbi P w' v xs) (hL:∀ l w' w'',I l w'->Below w'.heap.size w' w''->I l w'')
  (hF:∀ l x w',I l w'->Calls Tryz.prog 89 #[LV x,cap'] w' fun e w''=>e=.returned (.tuple #[])/\I (l++[x]) w''/\Keeps (fun b=>b≠m) w' w''/\w'.heap.size<=w''.heap.size) :
  Calls Tryz.prog 87 #[v,SV s,.func (.func 89) #[] #[cap']] w fun e w'=>e=.returned (.tuple #[])/\I (xaP xs s) w':=by
 obtain⟨ad,cap,rfl,hl,hcap,-,-⟩:=id (hX _ _ hI);unfold maxLen at hcap;have hs0:=xgt w s 63;have hI0:=hL _ _ _ hI (xak w (.cells #[.int .i64 s.cls,.string s.name,.int .i64 s.at'] 63));have hsz0:w.heap.size<(w.alloc (.cells #[.int .i64 s.cls,.string s.name,.int .i64 s.at'] 63)).heap.size:=by simp
 clear hI;go_enter Tryz.func87,Tryz.ntmps87;go_wp2
 go_loopg [12] xs.length (fun g c wr=>∃ j:Nat,j+g=xs.length/\c=.int .i64 j/\I (xaP (xs.take j) s) wr/\SiteAt wr w.heap.size s/\w.heap.size<wr.heap.size)
 case atStart=>exact⟨0,by omega,rfl,hI0,hs0,hsz0⟩
 case round=>
  obtain⟨j,hj,rfl,hIj,hsj,hzj⟩:=hrel;clear hI0 hs0 hsz0
  by_cases hlt:j<xs.length
  ·obtain⟨ad',cap'',e',-,-,-,hrow⟩:=hX _ _ hIj;simp only[Value.slice.injEq] at e';obtain⟨rfl,-,-⟩:=e';obtain⟨b,o,rfl,-,v0,v1,v2,sv,v3,hsl⟩:=hrow j xs[j] (by simp[hlt])
   have hxj:Hid (xs[j]?=some xs[j]):=by show _=_;simp[hlt]
   generalize xs[j]=x at *;have HT:Hid (xaP (xs.take (j+1)) s=xaP (xs.take j) s++if eqS x.site s then x.lz else []):=xfo hxj.out s;simp only[Nat.add_zero] at v0;obtain⟨ad2,cap2,rfl,hl2,hcap2,-,-⟩:=id hsl;unfold maxLen at hcap2;obtain⟨s0,s1,s2⟩:=id hsj;have s0':=fun y=>qzA (xak wr y) s0
   have s1':=fun y=>qzA (xak wr y) s1
   have s2':=fun y=>qzA (xak wr y) s2
   have he:=fun w=>neqS x.site s w
   clear hrow s0 s1 s2;have hj1:(j:Int)<(xs.length:Int):=by omega
   have hj0:(0:Int)<=(j:Int):=by omega
   have hbx:=xak wr (Obj.cells #[Value.int .i64 x.site.cls,Value.string x.site.name,Value.int .i64 x.site.at',Value.slice ad2 x.lz.length cap2] 68);have hzx:(wr.alloc (Obj.cells #[Value.int .i64 x.site.cls,Value.string x.site.name,Value.int .i64 x.site.at',Value.slice ad2 x.lz.length cap2] 68)).heap.size=wr.heap.size+1:=by simp
   by_cases hp:eqS x.site s=true
   ·have hp':(!eqS x.site s)=false:=by simp[hp]
    have HT':Hid (xaP (xs.take (j+1)) s=xaP (xs.take j) s++x.lz):=by show _=_;rw[HT.out,if_pos hp]
    rw[hp'] at he;clear hp hp';have hIx:=hL _ _ _ hIj hbx;have hsx:=hsj.later hbx;have hslx:=hsl.later xff hbx;go_wp2;generalize (wr.alloc (Obj.cells #[Value.int .i64 x.site.cls,Value.string x.site.name,Value.int .i64 x.site.at',Value.slice ad2 x.lz.length cap2] 68))=W1 at *;clear he s0' s1' s2' v0 v1 v2 v3 hIj hsj hsl
    go_loopg [23] x.lz.length (fun g c ws=>∃ q:Nat,q+g=x.lz.length/\c=.int .i64 q/\I (xaP (xs.take j) s++x.lz.take q) ws/\SiteAt ws w.heap.size s/\xek P ws (.slice ad2 x.lz.length cap2) x.lz/\w.heap.size<ws.heap.size)
    case atStart=>exact⟨0,by omega,rfl,by simpa using hIx,hsx,hslx,by omega⟩
    case round=>
     obtain⟨q,hq,rfl,hIq,hsq,hlq,hzq⟩:=hrel;clear hIx hsx hslx
     by_cases hltq:q<x.lz.length
     ·obtain⟨ad3,cap3,e3,-,-,-,hrow3⟩:=id hlq;simp only[Value.slice.injEq] at e3;obtain⟨rfl,-,-⟩:=e3;obtain⟨b3,o3,rfl,-,y0,y1⟩:=hrow3 q x.lz[q] (by simp[hltq])
      have hyq:Hid (x.lz[q]?=some x.lz[q]):=by show _=_;simp[hltq]
      generalize x.lz[q]=y at *;simp only[Nat.add_zero] at y0;have hq1:(q:Int)<(x.lz.length:Int):=by omega
      have hq0:(0:Int)<=(q:Int):=by omega
      have hby:=xak wr (Obj.cells #[Value.int .i64 y.cls,Value.int .i64 y.found] 65);have hIy:=hL _ _ _ hIq hby;have hsy:=hsq.later hby;clear hrow3;go_wp2_with fail;refine (hF _ y _ hIy).mono ?_;rintro e w1 ⟨rfl,hI1,hK1,hz1⟩;have hz1':wr.heap.size+1<=w1.heap.size:=by simpa using hz1
      go_wp2
      go_roundg (gk-1)
      case measure=>omega
      case rel=>
       have hmw:w.heap.size≠m:=by omega
       refine⟨q+1,by omega,by go_num,?_,?_,?_,by omega⟩
       ·rw[xh5 hyq.out,← List.append_assoc];exact hI1
       ·exact⟨hK1 _ _ _ hmw hsy.c0,hK1 _ _ _ hmw hsy.c1,hK1 _ _ _ hmw hsy.c2⟩
       ·exact (hlq.later xff hby).keep xff (hK1.mono hPm) fun _ h=>h
     ·obtain rfl:q=x.lz.length:=by omega
      go_wp2
      go_roundg (xs.length-(j+1))
      case measure=>omega
      case rel=>
       rw[List.take_of_length_le (qzC _)] at hIq
       exact⟨j+1,by omega,by go_num,by rw[HT'.out];exact hIq,hsq,hzq⟩
   ·have hp1:eqS x.site s=false:=by simpa using hp
    have hp':(!eqS x.site s)=true:=by simp[hp1]
    have HT':Hid (xaP (xs.take (j+1)) s=xaP (xs.take j) s):=by show _=_;rw[HT.out,if_neg (by simp[hp1])];simp
    rw[hp'] at he;clear hp hp' hp1;go_wp2
    go_roundg (gk-1)
    case measure=>omega
    case rel=>exact⟨j+1,by omega,by go_num,by rw[HT'.out];exact hL _ _ _ hIj hbx,hsj.later hbx,by omega⟩
  ·obtain rfl:j=xs.length:=by omega
   go_wp2;refine bodyPost_end (v:=.tuple #[]) (by simp[results,Tryz.results87,go_sem]) rfl ⟨rfl,?_⟩
   rw[List.take_of_length_le (qzC _)] at hIj
   exact hIj
theorem xfX (w:World)(cs:Array Value)(t:TypeId)(n j:Nat)(hn:w.heap.size=n):(w.alloc (.cells cs t)).frozen? ⟨n,j,none⟩=false:=by
 subst hn;unfold World.frozen?;rw[show (w.alloc (.cells cs t)).heap[(⟨w.heap.size,j,none⟩:Addr).block]?=some (.cells cs t) from qzJ w _]
 simp
def xd1 (ls:List QL):Int:=ls.foldl (fun n x=>wrap64 (n+x.found)) 0
theorem xiO (l:List QL)(x:QL):xd1 (l++[x])=wrap64 (xd1 l+x.found):=by simp[xd1]
theorem xmC (x:QL)(b:Nat)(n:Int)(w:World)(hc:w.cell? ⟨b,0,none⟩=some (.int .i64 n))(hf:w.frozen? ⟨b,0,none⟩=false):Calls Tryz.prog 88 #[LV x,.pointer (some ⟨b,0,none⟩)] w fun e w'=>e=.returned (.tuple #[])/\Below w.heap.size (w.setCell ⟨b,0,none⟩ (.int .i64 (wrap64 (n+x.found)))) w':=by
 have hbl:=World.block_lt_of_cell? _ _ hc;have k:=fun y=>qzA (xak w y) hc
 have kf:=fun y=>((xak w y).frozen (p:=⟨b,0,none⟩) hbl).trans hf
 go_enter Tryz.func88,Tryz.ntmps88;go_wp2;refine bodyPost_end (v:=.tuple #[]) (by simp[results,Tryz.results88,go_sem]) rfl ⟨rfl,by simpa using xak (w.setCell ⟨b,0,none⟩ (.int .i64 (wrap64 (n+x.found)))) _⟩
structure AllI (w:World)(v:Value)(xs:List QT)(m:Nat)(val:List QL->Int)(l:List QL)(w':World):Prop where
 bel:Below w.heap.size w w'
 there:m<w'.heap.size
 tal:xbi (fun b=>b<w.heap.size) w' v xs
 cell:w'.cell? ⟨m,0,none⟩=some (.int .i64 (val l))
 fz:w'.frozen? ⟨m,0,none⟩=false
theorem AllI.later {w:World}{v:Value}{xs:List QT}{m:Nat}{val:List QL->Int}{l:List QL}{w' w'':World}(h:AllI w v xs m val l w')(hb:Below w'.heap.size w' w''):AllI w v xs m val l w'':=
 ⟨xaf h.bel hb,qzE h.there hb.size,h.tal.later xd3 hb,qzA hb h.cell,(hb.frozen (p:=⟨m,0,none⟩) h.there).trans h.fz⟩
theorem xpA {P:Nat->Prop}(xs:List QT)(s:QS)(v:Value)(w:World)(hh:xbi P w v xs):Calls Tryz.prog 67 #[v,SV s] w fun e w'=>e=.returned (.int .i64 (xd1 (xaP xs s)))/\Below w.heap.size w w':=by
 have hm:=hmf;have ho:=xga hh;obtain⟨ad,cap,rfl,-,-,-,-⟩:=id hh;have hb2:=xbP w (.cells #[.int .i64 s.cls,.string s.name,.int .i64 s.at'] 63) (.cells #[.int .i64 0] 3)
 have hI:AllI w (.slice ad xs.length cap) xs (w.heap.size+1) xd1 [] ((w.alloc (.cells #[.int .i64 s.cls,.string s.name,.int .i64 s.at'] 63)).alloc (.cells #[.int .i64 0] 3)):=
  ⟨hb2,by simp,ho.later xd3 hb2,by rw[xaa _ _ _ _ (by simp)];rfl,xfX _ _ _ _ _ (by simp)⟩
 have hs:=(xgt w s 63).later (xak _ (.cells #[.int .i64 0] 3));obtain⟨s0,s1,s2⟩:=hs;go_enter Tryz.func67,Tryz.ntmps67;go_wp2_with fail;refine (xlF (P:=fun b=>b<w.heap.size) (AllI w (.slice ad xs.length cap) xs (w.heap.size+1) xd1) (w.heap.size+1) _ xs s _ _ hI (by simp) (fun b hb=>by omega) (fun l w' h=>h.tal) (fun l w' w'' h hb=>h.later hb) fun l x w' h=>?_).mono ?_
 ·refine (xmC x _ _ w' h.cell h.fz).mono ?_;rintro e w'' ⟨rfl,hb⟩;have hb':Below (w'.setCell ⟨w.heap.size+1,0,none⟩ (.int .i64 (wrap64 (xd1 l+x.found)))).heap.size (w'.setCell ⟨w.heap.size+1,0,none⟩ (.int .i64 (wrap64 (xd1 l+x.found)))) w'':=by simpa using hb
  refine⟨rfl,AllI.later ⟨h.bel.setCell (by simp) _,by simpa using h.there,h.tal.keep xd3 (Keeps.of_setCell (by simp) _) (fun _ h=>h),?_,?_⟩ hb',?_,?_⟩
  ·rw[xiO];exact xb5 h.cell _
  ·simpa using h.fz
  ·exact (Keeps.of_setCell (by simp) _).trans (Keeps.of_below hb')
  ·simpa using hb.size
 ·rintro e w1 ⟨rfl,hI1⟩;have k:=hI1.cell;go_wp2
  go_ret
  exact⟨rfl,hI1.bel⟩
def xbH (p:QL)(x:QL):QL:=if x.found>p.found\/(x.found>0/\x.found=p.found/\x.cls<p.cls) then x else p
def xdz (ls:List QL):QL:=ls.foldl xbH ⟨-1,0⟩
theorem xg2 (l:List QL)(x:QL):xdz (l++[x])=xbH (xdz l) x:=by simp[xdz]
structure MostP (w:World)(b:Nat)(q:QL)(w':World):Prop where
 bel:Below b w w'
 keep:Keeps (fun k=>k≠b) w w'
 c0:w'.cell? ⟨b,0,none⟩=some (.int .i64 q.cls)
 c1:w'.cell? ⟨b,1,none⟩=some (.int .i64 q.found)
 fz:∀ o,w'.frozen? ⟨b,o,none⟩=false
theorem MostP.same {w:World}{b:Nat}{p:QL}(h0:w.cell? ⟨b,0,none⟩=some (.int .i64 p.cls))(h1:w.cell? ⟨b,1,none⟩=some (.int .i64 p.found))(hf:∀ o,w.frozen? ⟨b,o,none⟩=false){w':World}(hb:Below w.heap.size w w'):MostP w b p w':=by
 have hbl:=World.block_lt_of_cell? _ _ h0;have hbl':b<w.heap.size:=hbl
 exact⟨hb.mono (by omega),.of_below hb,qzA hb h0,qzA hb h1,fun o=>(hb.frozen (p:=⟨b,o,none⟩) hbl).trans (hf o)⟩
theorem MostP.set {w:World}{b:Nat}{p x:QL}(h0:w.cell? ⟨b,0,none⟩=some (.int .i64 p.cls))(h1:w.cell? ⟨b,1,none⟩=some (.int .i64 p.found))(hf:∀ o,w.frozen? ⟨b,o,none⟩=false){w':World}(hb:Below w.heap.size ((w.setCell ⟨b,0,none⟩ (.int .i64 x.cls)).setCell ⟨b,1,none⟩ (.int .i64 x.found)) w'):MostP w b x w':=by
 have hbl':b<w.heap.size:=World.block_lt_of_cell? _ _ h0;have hb':Below ((w.setCell ⟨b,0,none⟩ (.int .i64 x.cls)).setCell ⟨b,1,none⟩ (.int .i64 x.found)).heap.size ((w.setCell ⟨b,0,none⟩ (.int .i64 x.cls)).setCell ⟨b,1,none⟩ (.int .i64 x.found)) w':=by simpa using hb
 have c0:((w.setCell ⟨b,0,none⟩ (.int .i64 x.cls)).setCell ⟨b,1,none⟩ (.int .i64 x.found)).cell? ⟨b,0,none⟩=some (.int .i64 x.cls):=by
  rw[qzM _ _ _ _ (by intro e;injection e with _ e2 _;omega)]
  exact xb5 h0 _
 have c1:((w.setCell ⟨b,0,none⟩ (.int .i64 x.cls)).setCell ⟨b,1,none⟩ (.int .i64 x.found)).cell? ⟨b,1,none⟩=some (.int .i64 x.found):=by
  refine xb5 (v:=.int .i64 p.found) ?_ _;rw[qzM _ _ _ _ (by intro e;injection e with _ e2 _;omega)]
  exact h1
 have fz:∀ o,((w.setCell ⟨b,0,none⟩ (.int .i64 x.cls)).setCell ⟨b,1,none⟩ (.int .i64 x.found)).frozen? ⟨b,o,none⟩=false:=fun o=>by simpa using hf o
 have:=MostP.same c0 c1 fz hb'
 exact⟨(((qzL b w).setCell (qzC _) _).setCell (qzC _) _).trans this.bel,((Keeps.of_setCell (by simp) _).trans (Keeps.of_setCell (by simp) _)).trans this.keep,this.c0,this.c1,this.fz⟩
theorem xlo (x p:QL)(b:Nat)(w:World)(h0:w.cell? ⟨b,0,none⟩=some (.int .i64 p.cls))(h1:w.cell? ⟨b,1,none⟩=some (.int .i64 p.found))(hf:∀ o,w.frozen? ⟨b,o,none⟩=false):Calls Tryz.prog 89 #[LV x,.pointer (some ⟨b,0,none⟩)] w fun e w'=>e=.returned (.tuple #[])/\MostP w b (xbH p x) w':=by
 have hbl:b<w.heap.size:=World.block_lt_of_cell? _ _ h0;have k0:=fun y=>qzA (xak w y) h0
 have k1:=fun y=>qzA (xak w y) h1
 have kf:=fun y o=>((xak w y).frozen (p:=⟨b,o,none⟩) hbl).trans (hf o)
 by_cases hA:p.found<x.found
 ·have HM:Hid (xbH p x=x):=by show _=_;unfold xbH;rw[if_pos (Or.inl hA)]
  have hd:decide (p.found<x.found)=true:=by simpa using hA
  go_enter Tryz.func89,Tryz.ntmps89;go_wp2;refine bodyPost_end (v:=.tuple #[]) (by simp[results,Tryz.results89,go_sem]) rfl ⟨rfl,?_⟩
  rw[HM.out]
  exact MostP.set h0 h1 hf (by simpa using xak ((w.setCell ⟨b,0,none⟩ (.int .i64 x.cls)).setCell ⟨b,1,none⟩ (.int .i64 x.found)) _)
 ·have hdA:decide (p.found<x.found)=false:=by simpa using hA
  by_cases hB:0<x.found
  ·have hdB:decide (0<x.found)=true:=by simpa using hB
   by_cases hC:x.found=p.found
   ·by_cases hD:x.cls<p.cls
    ·have HM:Hid (xbH p x=x):=by show _=_;unfold xbH;rw[if_pos (Or.inr ⟨hB,hC,hD⟩)]
     have hdD:decide (x.cls<p.cls)=true:=by simpa using hD
     have hdC:(x.found == p.found)=true:=by simpa using hC
     go_enter Tryz.func89,Tryz.ntmps89;go_wp2;refine bodyPost_end (v:=.tuple #[]) (by simp[results,Tryz.results89,go_sem]) rfl ⟨rfl,?_⟩
     rw[HM.out]
     first
     | exact MostP.set h0 h1 hf (by simpa using xak ((w.setCell ⟨b,0,none⟩ (.int .i64 x.cls)).setCell ⟨b,1,none⟩ (.int .i64 x.found)) _)
     | exact MostP.set h0 h1 hf (by simpa [hC] using xak ((w.setCell ⟨b,0,none⟩ (.int .i64 x.cls)).setCell ⟨b,1,none⟩ (.int .i64 x.found)) _)
    ·have HM:Hid (xbH p x=p):=by show _=_;unfold xbH;rw[if_neg (by omega)]
     have hdD:decide (x.cls<p.cls)=false:=by simpa using hD
     have hdC:(x.found == p.found)=true:=by simpa using hC
     go_enter Tryz.func89,Tryz.ntmps89;go_wp2;refine bodyPost_end (v:=.tuple #[]) (by simp[results,Tryz.results89,go_sem]) rfl ⟨rfl,?_⟩
     rw[HM.out]
     exact MostP.same h0 h1 hf (xak _ _)
   ·have HM:Hid (xbH p x=p):=by show _=_;unfold xbH;rw[if_neg (by omega)]
    have hdC:(x.found == p.found)=false:=by simpa using hC
    go_enter Tryz.func89,Tryz.ntmps89;go_wp2;refine bodyPost_end (v:=.tuple #[]) (by simp[results,Tryz.results89,go_sem]) rfl ⟨rfl,?_⟩
    rw[HM.out]
    exact MostP.same h0 h1 hf (xak _ _)
  ·have HM:Hid (xbH p x=p):=by show _=_;unfold xbH;rw[if_neg (by omega)]
   have hdB:decide (0<x.found)=false:=by simpa using hB
   go_enter Tryz.func89,Tryz.ntmps89;go_wp2;refine bodyPost_end (v:=.tuple #[]) (by simp[results,Tryz.results89,go_sem]) rfl ⟨rfl,?_⟩
   rw[HM.out]
   exact MostP.same h0 h1 hf (xak _ _)
structure MostI (w:World)(v:Value)(xs:List QT)(m:Nat)(l:List QL)(w':World):Prop where
 bel:Below w.heap.size w w'
 there:m<w'.heap.size
 tal:xbi (fun b=>b<w.heap.size) w' v xs
 c0:w'.cell? ⟨m,0,none⟩=some (.int .i64 (xdz l).cls)
 c1:w'.cell? ⟨m,1,none⟩=some (.int .i64 (xdz l).found)
 fz:∀ o,w'.frozen? ⟨m,o,none⟩=false
theorem MostI.later {w:World}{v:Value}{xs:List QT}{m:Nat}{l:List QL}{w' w'':World}(h:MostI w v xs m l w')(hb:Below w'.heap.size w' w''):MostI w v xs m l w'':=
 ⟨xaf h.bel hb,qzE h.there hb.size,h.tal.later xd3 hb,qzA hb h.c0,qzA hb h.c1,fun o=>(hb.frozen (p:=⟨m,o,none⟩) h.there).trans (h.fz o)⟩
theorem xor {P:Nat->Prop}(xs:List QT)(s:QS)(v:Value)(w:World)(hh:xbi P w v xs):Calls Tryz.prog 68 #[v,SV s] w fun e w'=>e=.returned (.tuple #[.int .i64 (xdz (xaP xs s)).cls,.int .i64 (xdz (xaP xs s)).found])/\Below w.heap.size w w':=by
 have hm:=hmf;have ho:=xga hh;obtain⟨ad,cap,rfl,-,-,-,-⟩:=id hh;have hb2:=xbP w (.cells #[.int .i64 s.cls,.string s.name,.int .i64 s.at'] 63) (.cells #[.int .i64 (-1),.int .i64 0] 65)
 have hI:MostI w (.slice ad xs.length cap) xs (w.heap.size+1) [] ((w.alloc (.cells #[.int .i64 s.cls,.string s.name,.int .i64 s.at'] 63)).alloc (.cells #[.int .i64 (-1),.int .i64 0] 65)):=
  ⟨hb2,by simp,ho.later xd3 hb2,by rw[xaa _ _ _ _ (by simp)];rfl,by rw[xaa _ _ _ _ (by simp)];rfl,fun o=>xfX _ _ _ _ _ (by simp)⟩
 have hs:=(xgt w s 63).later (xak _ (.cells #[.int .i64 (-1),.int .i64 0] 65));obtain⟨s0,s1,s2⟩:=hs;go_enter Tryz.func68,Tryz.ntmps68;go_wp2_with fail;refine (xly (P:=fun b=>b<w.heap.size) (MostI w (.slice ad xs.length cap) xs (w.heap.size+1)) (w.heap.size+1) _ xs s _ _ hI (by simp) (fun b hb=>by omega) (fun l w' h=>h.tal) (fun l w' w'' h hb=>h.later hb) fun l x w' h=>?_).mono ?_
 ·refine (xlo x (xdz l) _ w' h.c0 h.c1 h.fz).mono ?_;rintro e w'' ⟨rfl,hp⟩;refine⟨rfl,⟨h.bel.trans (hp.bel.mono (by omega)),qzE h.there hp.bel.size,h.tal.keep xd3 (hp.keep.mono (fun b hb=>by omega)) (fun _ h=>h),?_,?_,hp.fz⟩,hp.keep,hp.bel.size⟩
  ·rw[xg2];exact hp.c0
  ·rw[xg2];exact hp.c1
 ·rintro e w1 ⟨rfl,hI1⟩;have k0:=hI1.c0;have k1:=hI1.c1;go_wp2
  go_quiet (fail)
  go_wp2
  go_ret2
  exact⟨rfl,below_drewN hI1.bel _⟩
def xcI (i:QI):Bool:=i.op == 14 || i.op == 13
def xdj (m:QM):Bool:=m.prim == 0 && !m.code.any xcI
theorem xk2 (x:QI)(w:World):Calls Tryz.prog 86 #[IV x] w fun e w'=>e=.returned (.bool (xcI x))/\Below w.heap.size w w':=by
 by_cases h:x.op=14
 ·have hd:(x.op == 14)=true:=by simpa using h
  have HS:Hid (xcI x=true):=by show _=_;simp[xcI,h]
  clear h;go_enter Tryz.func86,Tryz.ntmps86;go_wp2
  go_ret
  exact⟨xby HS.out.symm,xak _ _⟩
 ·have hd:(x.op == 14)=false:=by simpa using h
  have HS:Hid (xcI x=(x.op == 13)):=by show _=_;simp[xcI,h]
  clear h;go_enter Tryz.func86,Tryz.ntmps86;go_wp2
  go_ret
  exact⟨xby HS.out.symm,xak _ _⟩
theorem xlH {P:Nat->Prop}(xs:List QI)(v:Value)(w:World)(hh:xaR P w v xs) :
  Calls Tryz.prog 96 #[v,.func (.func 86) #[] #[]] w fun e w'=>e=.returned (.int .i64 (xcP xcI xs))/\Below w.heap.size w w':=by
 obtain⟨ad,cap,rfl,hl,hcap,hby,hrow⟩:=hh;go_enter Tryz.func96,Tryz.ntmps96;go_wp2
 go_loopg [8] xs.length (fun g c wr=>∃ j:Nat,j+g=xs.length/\c=.int .i64 j/\Below w.heap.size w wr/\∀ i y,i<j->xs[i]?=some y->xcI y=false)
 case atStart=>exact⟨0,by omega,rfl,qzL _ _,fun i y hi=>by omega⟩
 case round=>
  obtain⟨j,hj,rfl,hbel,hno⟩:=hrel;have HN:Hid (∀ i y,i<j->xs[i]?=some y->xcI y=false):=hno;clear hno
  by_cases hlt:j<xs.length
  ·obtain⟨b,o,rfl,-,hv0,hv1,hv2,hv3,hv4,hsz⟩:=hrow j xs[j] (by simp[hlt])
   have hxj:Hid (xs[j]?=some xs[j]):=by show _=_;simp[hlt]
   generalize xs[j]=x at *;simp only[Nat.add_zero] at hv0;have u0:=qzA hbel hv0;have u1:=qzA hbel hv1;have u2:=qzA hbel hv2;have u3:=qzA hbel hv3;have u4:=qzA hbel hv4;clear hv0 hv1 hv2 hv3 hv4 hrow;have hj1:(j:Int)<(xs.length:Int):=by omega
   have hj0:(0:Int)<=(j:Int):=by omega
   go_wp2_with fail;refine (xk2 x _).mono ?_;rintro e w1 ⟨rfl,hb⟩
   by_cases hp:xcI x=true
   ·go_wp2
    go_ret
    exact⟨xan (xfG hxj.out hp HN.out).symm,xaf hbel hb⟩
   ·have hp':xcI x=false:=by simpa using hp
    clear hp;go_wp2
    go_roundg (gk-1)
    case measure=>omega
    case rel=>
     refine⟨j+1,by omega,by go_num,xaf hbel hb,fun i y hi hy=>?_⟩
     by_cases hij:i=j
     ·subst hij;rw[hxj.out] at hy;cases hy;exact hp'
     ·exact HN.out i y (by omega) hy
  ·obtain rfl:j=xs.length:=by omega
   go_wp2
   go_ret
   exact⟨xan (xdW fun i y hy=>HN.out i y (xae hy) hy).symm,hbel⟩
theorem xnd {α:Type}(p:α->Bool)(xs:List α):decide (0<=xcP p xs)=xs.any p:=by
 unfold xcP
 cases h:xs.findIdx? p with
 | none=>
  rw[List.findIdx?_eq_none_iff] at h
  have:xs.any p=false:=by
   rw[List.any_eq_false];intro x hx
   simp[h x hx]
  simp[this]
 | some j=>
  rw[List.findIdx?_eq_some_iff_getElem] at h;obtain⟨h1,h2,-⟩:=h
  have:xs.any p=true:=by
   rw[List.any_eq_true]
   exact⟨_,List.getElem_mem h1,h2⟩
  rw[this]
  simp
theorem xiG {P:Nat->Prop}(xs:List QI)(v:Value)(w:World)(hh:xaR P w v xs) :
  Calls Tryz.prog 85 #[v,.func (.func 86) #[] #[]] w fun e w'=>e=.returned (.bool (xs.any xcI))/\Below w.heap.size w w':=by
 go_enter Tryz.func85,Tryz.ntmps85;go_wp2_with fail;refine (xlH xs v _ hh).mono ?_;rintro e w1 ⟨rfl,hb⟩;go_wp2
 go_ret
 exact⟨xby (xnd xcI xs),hb⟩
theorem xkA {P:Nat->Prop}(x:QM)(v:Value)(w:World)(hh:xaR P w v x.code):Calls Tryz.prog 64 #[MV x v] w fun e w'=>e=.returned (.bool (xdj x))/\Below w.heap.size w w':=by
 obtain⟨ad,cap,rfl,-⟩:=id hh
 by_cases h:x.prim=0
 ·have hd:(x.prim == 0)=true:=by simpa using h
  have HS:Hid (xdj x=!x.code.any xcI):=by show _=_;simp[xdj,h]
  clear h;go_enter Tryz.func64,Tryz.ntmps64;go_wp2_with fail;refine (xiG x.code _ _ (hh.later xa2 (xak _ _))).mono ?_;rintro e w1 ⟨rfl,hb⟩;go_wp2
  go_ret
  exact⟨xby HS.out.symm,xea (qzL _ _) hb⟩
 ·have hd:(x.prim == 0)=false:=by simpa using h
  have HS:Hid (xdj x=false):=by show _=_;simp[xdj,h]
  clear h;go_enter Tryz.func64,Tryz.ntmps64;go_wp2
  go_ret
  exact⟨xby HS.out.symm,xak _ _⟩
theorem xhC {xs:List QC}{name:ByteArray}:∀ (l:List Int),0<=(xcJ xs name l).2->(xcJ xs name l).2=xcw (xbG xs (xcJ xs name l).1) name
 | [],h=>by simp[xcJ] at h
 | k :: r,h=>by
  unfold xcJ at h ⊢
  by_cases hk:0<=xcw (xbG xs k) name
  ·rw[if_pos hk]
  ·rw[if_neg hk] at h ⊢
   exact xhC r h
theorem xiv {xs:List QC}{k:Int}{name:ByteArray}(h:0<=xcw (xbG xs k) name):∃ (q:Nat) (x:QC),k=(q:Int)/\xs[q]?=some x/\xbG xs k=x.mz:=by
 unfold xbG at h ⊢
 cases hx:xbx xs k with
 | none=>rw[hx] at h;simp[xcw,xcP] at h
 | some x=>
  obtain⟨q,rfl,hq⟩:=xa7 hx
  exact⟨q,x,rfl,hq,rfl⟩
theorem xg5 {xs:List QC}{name:ByteArray}:∀ {l:List Int},(∀ k∈l,0<=k)->((xcJ xs name l).1<0/\(xcJ xs name l).2<0)\/(0<=(xcJ xs name l).1/\0<=(xcJ xs name l).2)
 | [],_=>Or.inl (by simp[xcJ])
 | k :: r,h=>by
  unfold xcJ
  split
  ·rename_i hk
   exact Or.inr ⟨h k (by simp),hk⟩
  ·exact xg5 fun q hq=>h q (by simp[hq])
theorem xla (xs:List QC)(c:Int)(name:ByteArray):((xaB xs c name).1<0/\(xaB xs c name).2<0)\/(0<=(xaB xs c name).1/\0<=(xaB xs c name).2):=by
 rw[xhw];refine xg5 fun k hk=>?_
 obtain⟨i,hi,rfl⟩:=List.mem_iff_getElem.1 hk;obtain⟨q,x,e,-⟩:=xfH _ _ i _ (by rw[List.getElem?_eq_getElem hi])
 rw[e];omega
theorem xk5 {xs:List QC}{k:Int}{name:ByteArray}(h:0<=(xaB xs k name).2):∃ (q:Nat) (x:QC) (t:Nat) (y:QM),xaB xs k name=((q:Int),(t:Int))/\xs[q]?=some x/\x.mz[t]?=some y:=by
 rw[xhw] at h ⊢;generalize xdB xs (xs.length+1) k=l at *;have h1:=xhC l h;have h2:0<=xcw (xbG xs (xcJ xs name l).1) name:=by omega
 obtain⟨q,x,hq,hx,hm⟩:=xiv h2;rw[hm] at h1 h2
 rcases xjs (fun m:QM=>eqN m.name name) x.mz with h3 | ⟨t,y,ht,hy,hp,-⟩
 ·have:xcw x.mz name=-1:=h3
  omega
 ·have ht':xcw x.mz name=(t:Int):=ht;refine⟨q,x,t,y,?_,hx,hy⟩;rw[ht'] at h1
  exact Prod.ext hq h1
theorem xfd (xs:List QC)(k:Int)(name:ByteArray):((xaB xs k name).1<0/\(xaB xs k name).2<0)\/∃ (q:Nat) (x:QC) (t:Nat) (y:QM),xaB xs k name=((q:Int),(t:Int))/\xs[q]?=some x/\x.mz[t]?=some y:=by
 rcases xla xs k name with h | h
 ·exact Or.inl h
 ·exact Or.inr (xk5 h.2)
def xcv (xs:List QC)(c:Int)(name:ByteArray)(args:Int):Bool:=
 if (xaB xs c name).2<0 then false else
 match (xs[(xaB xs c name).1.toNat]?).bind fun x=>x.mz[(xaB xs c name).2.toNat]? with
 | some m=>m.args == args && xdj m
 | none=>false
theorem xmO {xs:List QC}{c:Int}{name:ByteArray}(args:Int)(h:(xaB xs c name).2<0):xcv xs c name args=false:=by simp[xcv,h]
theorem xlr {xs:List QC}{c:Int}{name:ByteArray}(args:Int){q t:Nat}{x:QC}{m:QM}(h:xaB xs c name=((q:Int),(t:Int)))(hx:xs[q]?=some x)(hm:x.mz[t]?=some m):xcv xs c name args=(m.args == args && xdj m):=by
 unfold xcv;rw[h]
 simp[hx,hm]
theorem xeA {P:Nat->Prop}(X:QW)(c:Int)(name:ByteArray)(args:Int)(cv hv:Value)(w:World)(hC:xai P w cv X.cz)(hH:xaD P w hv X.heap) :
  Calls Tryz.prog 69 #[WV cv hv X.ez,.int .i64 c,.string name,.int .i64 args] w fun e w'=>e=.returned (.bool (xcv X.cz c name args))/\Below w.heap.size w w':=by
 obtain⟨ad,cap,rfl,hl,hcap,hby,hrow⟩:=id hC;obtain⟨ah,ch,rfl,-,-,-,-⟩:=id hH;have hb0:=xak w (.cells #[.slice ad X.cz.length cap,.slice ah X.heap.length ch,.int .i64 X.ez] 25);have k0:(w.alloc (.cells #[.slice ad X.cz.length cap,.slice ah X.heap.length ch,.int .i64 X.ez] 25)).cell? ⟨w.heap.size,0,none⟩=some (.slice ad X.cz.length cap):=by rw[xaa _ _ _ _ rfl];rfl
 go_enter Tryz.func69,Tryz.ntmps69;go_wp2_with fail;refine (xfE X c name _ _ _ (hC.later xaA (xak _ _)) (hH.later xaE (xak _ _))).mono ?_;rintro e w1 ⟨rfl,hb⟩;replace k0:=qzA hb k0;have hB:=xaf hb0 hb;clear hb0 hb
 rcases xfd X.cz c name with ⟨h1,h2⟩ | ⟨q,x,t,m,he,hx,hm⟩
 ·have HS:Hid (xcv X.cz c name args=false):=xmO args h2;have hd:decide ((xaB X.cz c name).1<0)=true:=by simpa using h1
  generalize xaB X.cz c name=f at *;obtain⟨f1,f2⟩:=f;go_wp2
  go_ret
  exact⟨xby HS.out.symm,hB⟩
 ·have HS:Hid (xcv X.cz c name args=(m.args == args && xdj m)):=xlr args he hx hm;rw[he];have hq:=xae hx;have ht:=xae hm;obtain⟨b,o,rfl,-,-,-,-,-,mv,hv3,hms⟩:=hrow q x hx;obtain⟨am,cm,rfl,hlm,hcm,-,hrm⟩:=hms;obtain⟨b2,o2,rfl,-,y0,y1,y2,y3,-,sv,y4,hco⟩:=hrm t m hm;obtain⟨ac,cc,rfl,-,-,-,-⟩:=id hco;simp only[Nat.add_zero] at y0;have u3:=qzA hB hv3;have z0:=qzA hB y0;have z1:=qzA hB y1;have z2:=qzA hB y2;have z3:=qzA hB y3;have z4:=qzA hB y4;have hcl:=hco.later xa2 hB;unfold maxLen at hcap hcm;have hq1:(q:Int)<(X.cz.length:Int):=by omega
  have hq0:(0:Int)<=(q:Int):=by omega
  have ht1:(t:Int)<(x.mz.length:Int):=by omega
  have ht0:(0:Int)<=(t:Int):=by omega
  have hqn:decide ((q:Int)<0)=false:=by simp
  clear hrow hrm hx hm he hv3 y0 y1 y2 y3 y4 hco hC hH
  by_cases ha:m.args=args
  ·have hd:(m.args == args)=true:=by simpa using ha
   have HL:Hid (xcv X.cz c name args=xdj m):=by show _=_;rw[HS.out,hd];simp
   subst ha;clear hd HS;go_wp2_with fail;refine (xkA m _ _ (hcl.later xa2 (xak _ _))).mono ?_;rintro e w2 ⟨rfl,hb2⟩;go_wp2
   go_ret
   exact⟨xby HL.out.symm,xaf hB (xea (qzL _ _) hb2)⟩
  ·have hd:(m.args == args)=false:=by simpa using ha
   have HL:Hid (xcv X.cz c name args=false):=by show _=_;rw[HS.out,hd];simp
   clear HS ha;go_wp2
   go_ret
   exact⟨xby HL.out.symm,xaf hB (xak _ _)⟩
theorem xmQ (ls:List QL):0<=(xdz ls).found:=by
 have:∀ (l:List QL) (p:QL),0<=p.found->0<=(l.foldl xbH p).found:=by
  intro l
  induction l with
  | nil=>exact fun p h=>h
  | cons x r ih=>
   intro p h;refine ih _ ?_;unfold xbH
   split<;>omega
 exact this ls _ (by simp)
theorem xlz (ls:List QL):-9223372036854775808<=xd1 ls/\xd1 ls<9223372036854775808:=by
 rcases List.eq_nil_or_concat ls with rfl | ⟨r,x,rfl⟩
 ·simp[xd1]
 ·rw[List.concat_eq_append,xiO];unfold wrap64;omega
theorem xlV {a n:Int}(h2:¬ a<2)(hi:a<9223372036854775808):n<=wrap64 (a.tdiv 2) ↔ n+n<=a:=by
 rw[Int.tdiv_eq_ediv_of_nonneg (by omega)]
 unfold wrap64
 omega
def xgP (X:QW)(t:List QT)(s:QS)(name:ByteArray)(args:Int):Int:=
 if xd1 (xaP t s)<2\/(xdz (xaP t s)).found+(xdz (xaP t s)).found<=xd1 (xaP t s)\/xcv X.cz (xdz (xaP t s)).cls name args=false then -1 else (xdz (xaP t s)).cls
structure SiteB (w:World)(ad:Option Addr)(n cap:Nat)(ah:Option Addr)(nh ch:Nat)(ep:Int)(b:Nat)(s:QS)(w':World):Prop where
 k0:w'.cell? ⟨b,0,none⟩=some (.slice ad n cap)
 k1:w'.cell? ⟨b,1,none⟩=some (.slice ah nh ch)
 k2:w'.cell? ⟨b,2,none⟩=some (.int .i64 ep)
 s:SiteAt w' (b+1) s
 bel:Below w.heap.size w w'
theorem SiteB.later {w:World}{ad:Option Addr}{n cap:Nat}{ah:Option Addr}{nh ch:Nat}{ep:Int}{b:Nat}{s:QS}{w' w'':World}(h:SiteB w ad n cap ah nh ch ep b s w')(hb:Below w'.heap.size w' w''):SiteB w ad n cap ah nh ch ep b s w'':=
 ⟨qzA hb h.k0,qzA hb h.k1,qzA hb h.k2,h.s.later hb,xaf h.bel hb⟩
theorem xmW (w:World)(ad:Option Addr)(n cap:Nat)(ah:Option Addr)(nh ch:Nat)(ep:Int)(s:QS):SiteB w ad n cap ah nh ch ep w.heap.size s ((w.alloc (.cells #[.slice ad n cap,.slice ah nh ch,.int .i64 ep] 25)).alloc (.cells #[.int .i64 s.cls,.string s.name,.int .i64 s.at'] 63)):=by
 refine⟨?_,?_,?_,?_,xbP _ _ _⟩
 ·exact qzA (xak _ _) (by rw[xaa _ _ _ _ rfl];rfl)
 ·exact qzA (xak _ _) (by rw[xaa _ _ _ _ rfl];rfl)
 ·exact qzA (xak _ _) (by rw[xaa _ _ _ _ rfl];rfl)
 ·have:=xgt (w.alloc (.cells #[.slice ad n cap,.slice ah nh ch,.int .i64 ep] 25)) s 63
  simpa using this
theorem xmM {P P2:Nat->Prop}(X:QW)(t:List QT)(s:QS)(name:ByteArray)(args:Int)(cv hv tv:Value)(w:World)(hC:xai P w cv X.cz)(hH:xaD P w hv X.heap)(hT:xbi P2 w tv t) :
  Calls Tryz.prog 50 #[WV cv hv X.ez,tv,SV s,.string name,.int .i64 args] w fun e w'=>e=.returned (.int .i64 (xgP X t s name args))/\Below w.heap.size w w':=by
 obtain⟨ad,cap,rfl,-⟩:=id hC;obtain⟨ah,ch,rfl,-⟩:=id hH;have hB:=xmW w ad X.cz.length cap ah X.heap.length ch X.ez s;go_enter Tryz.func50,Tryz.ntmps50
 go_upto_region 1 with (fail)
 generalize (w.alloc (.cells #[.slice ad X.cz.length cap,.slice ah X.heap.length ch,.int .i64 X.ez] 25)).alloc (.cells #[.int .i64 s.cls,.string s.name,.int .i64 s.at'] 63)=W0 at *;have hT0:=hT.later xd3 hB.bel;have hC0:=hC.later xaA hB.bel;have hH0:=hH.later xaE hB.bel;obtain⟨s0,s1,s2⟩:=hB.s;go_wp2_with fail;refine (xpA t s _ _ hT0).mono ?_;rintro e w1 ⟨rfl,hb1⟩;replace hB:=hB.later hb1;replace hT0:=hT0.later xd3 hb1;clear hb1 s0 s1 s2;obtain⟨s0,s1,s2⟩:=hB.s;go_wp2_with fail;refine (xor t s _ _ hT0).mono ?_;rintro e w2 ⟨rfl,hb2⟩;replace hB:=hB.later hb2;clear hb2 s0 s1 s2 hT0;have HE:Hid (xgP X t s name args=if xd1 (xaP t s)<2\/(xdz (xaP t s)).found+(xdz (xaP t s)).found<=xd1 (xaP t s)\/xcv X.cz (xdz (xaP t s)).cls name args=false then -1 else (xdz (xaP t s)).cls):=rfl
 have hhi:=(xlz (xaP t s)).2;have hlow:=xmQ (xaP t s);generalize xd1 (xaP t s)=a at *;generalize xdz (xaP t s)=p at *;obtain⟨pc,pn⟩:=p;simp only at *;have hC2:=hC.later xaA hB.bel;have hH2:=hH.later xaE hB.bel;clear hT hC0 hH0;obtain⟨k0,k1,k2,-,hbel⟩:=hB
 by_cases h1:a<2
 ·have hd:decide (a<2)=true:=by simpa using h1
  have HR:Hid (xgP X t s name args=-1):=by show _=_;rw[HE.out,if_pos (Or.inl h1)]
  clear HE;go_wp2
  go_ret
  exact⟨xan HR.out.symm,hbel⟩
 ·have hd:decide (a<2)=false:=by simpa using h1
  by_cases h2:pn+pn<=a
  ·have hd2:decide (pn<=wrap64 (a.tdiv 2))=true:=by simpa using (xlV h1 hhi).2 h2
   have HR:Hid (xgP X t s name args=-1):=by show _=_;rw[HE.out,if_pos (Or.inr (Or.inl h2))]
   clear HE h1 h2;go_wp2
   go_ret
   exact⟨xan HR.out.symm,hbel⟩
  ·have hd2:decide (pn<=wrap64 (a.tdiv 2))=false:=by
    have:=fun h=>h2 ((xlV h1 hhi).1 h)
    simpa using this
   cases hlf:xcv X.cz pc name args
   ·have HR:Hid (xgP X t s name args=-1):=by show _=_;rw[HE.out,if_pos (Or.inr (Or.inr hlf))]
    have HL:Hid (xcv X.cz pc name args=false):=hlf;clear HE h1 h2 hlf;go_wp2_with fail;refine (xeA X pc name args _ _ _ hC2 hH2).mono ?_;rintro e w3 ⟨rfl,hb3⟩;rw[HL.out];go_wp2
    go_ret
    exact⟨xan HR.out.symm,xaf hbel hb3⟩
   ·have HR:Hid (xgP X t s name args=pc):=by show _=_;rw[HE.out,if_neg (by simp[h1,h2,hlf])]
    have HL:Hid (xcv X.cz pc name args=true):=hlf;clear HE h1 h2 hlf;go_wp2_with fail;refine (xeA X pc name args _ _ _ hC2 hH2).mono ?_;rintro e w3 ⟨rfl,hb3⟩;rw[HL.out];go_wp2
    go_ret
    exact⟨xan HR.out.symm,xaf hbel hb3⟩
abbrev ins (op a b c:Int):QI:=⟨op,a,b,c,⟨#[]⟩⟩
def xay (self args temps first behind:Int)(x:QI):QI:=
 if x.op=1 then ins 3 self 0 0
 else if x.op=2 then ins 3 (args+x.a) 0 0
 else if x.op=3\/x.op=11 then ins x.op (temps+x.a) 0 0
 else if x.op=4 then ins 19 self x.a 0
 else if x.op=12 then ins 20 self x.a 0
 else if x.op=15\/x.op=16 then ins x.op (first+x.a) 0 0
 else if x.op=17 then ins 15 behind 0 0
 else x
def xdd (args:Int):Nat->List QI
 | 0=>[]
 | n+1=>ins 11 (args+n) 0 0 :: xdd args n
def xco (temps:Int)(n:Nat):List QI:=(List.range n).flatMap fun k=>[ins 6 0 0 0,ins 11 (temps+(k:Nat)) 0 0]
theorem xdV (temps:Int)(n:Nat):xco temps (n+1)=xco temps n++[ins 6 0 0 0,ins 11 (temps+(n:Nat)) 0 0]:=by
 unfold xco;rw[List.range_succ,List.flatMap_append];simp
theorem xdP (temps:Int):∀ n,(xco temps n).length=2*n
 | 0=>rfl
 | n+1=>by rw[xdV,List.length_append,xdP temps n];simp;omega
theorem xfV (args:Int):∀ n,(xdd args n).length=n
 | 0=>rfl
 | n+1=>by simp[xdd,xfV args n]
def xfy (leaf:QM)(guard:QI)(self:Int):List QI:=[guard,ins 21 0 0 0]++xdd (self+1) leaf.args.toNat++[ins 11 self 0 0]++xco (self+1+leaf.args) leaf.temps.toNat
def xbw (leaf:QM)(n:Int):Int:=n+3+leaf.args+2*leaf.temps
def xbu (leaf:QM)(guard:QI)(self n:Int):List QI:=xfy leaf guard self++leaf.code.map (xay self (self+1) (self+1+leaf.args) (xbw leaf n) (xbw leaf n+leaf.code.length))
theorem xnx (leaf:QM)(guard:QI)(self:Int):(xfy leaf guard self).length=3+leaf.args.toNat+2*leaf.temps.toNat:=by
 unfold xfy;simp[xfV,xdP];omega
theorem xbB (leaf:QM)(guard:QI)(self n:Int):(xbu leaf guard self n).length=3+leaf.args.toNat+2*leaf.temps.toNat+leaf.code.length:=by
 unfold xbu;rw[List.length_append,xnx];simp
def xd5 (xs:List QC)(k:Int)(name:ByteArray):Option QM:=if (xaB xs k name).2<0 then none else (xs[(xaB xs k name).1.toNat]?).bind fun x=>x.mz[(xaB xs k name).2.toNat]?
def xa3 (xs:List QC)(sites:List Int)(at':Nat)(x:QI):Option QM:=
 if x.op=14/\0<=sites.getD at' (-1) then
  match xd5 xs (sites.getD at' (-1)) x.name with
  | none=>none
  | some m=>if m.args=x.a/\xdj m=true then some m else none
 else none
def xgy (n temps:Int)(leaf:QM)(left:Int):Bool:=decide (n+3+leaf.args+2*leaf.temps+leaf.code.length+left<=240/\temps+1+leaf.args+leaf.temps<=40)
def xbh (x:QI)(at':Int):QI:=if x.op=14 then { x with c:=at' } else x
def xdZ (xs:List QC)(sites:List Int)(len:Nat)(n temps:Int)(at':Nat)(x:QI):Option QM:=
 match xa3 xs sites at' x with
 | none=>none
 | some leaf=>if xgy n temps leaf ((len:Int)-at')=true then some leaf else none
structure Bd where
 code:List QI
 temps:Int
 begins:List Int
 pieces:Nat
def xdA (xs:List QC)(sites:List Int)(len:Nat)(s:Bd)(at':Nat)(x:QI):Bd:=
 match xdZ xs sites len s.code.length s.temps at' x with
 | none=>⟨s.code++[xbh x at'],s.temps,s.begins++[(s.code.length:Int)],s.pieces⟩
 | some leaf=>⟨s.code++xbu leaf (ins 18 (sites.getD at' (-1)) leaf.args at') s.temps s.code.length,s.temps+1+leaf.args+leaf.temps,s.begins++[(s.code.length:Int)],s.pieces+1⟩
def xah (xs:List QC)(sites:List Int)(m:QM):Nat->Bd
 | 0=>⟨[],m.temps,[],0⟩
 | k+1=>match m.code[k]? with
  | none=>xah xs sites m k
  | some x=>xdA xs sites m.code.length (xah xs sites m k) k x
theorem xbg {xs:List QC}{sites:List Int}{m:QM}{k:Nat}{x:QI}(h:m.code[k]?=some x):xah xs sites m (k+1)=xdA xs sites m.code.length (xah xs sites m k) k x:=by
 rw[xah,h]
theorem xel (xs:List QC)(sites:List Int)(len:Nat)(s:Bd)(k:Nat)(x:QI):(xdA xs sites len s k x).begins=s.begins++[(s.code.length:Int)]:=by
 unfold xdA;split<;>rfl
theorem xbF {xs:List QC}{sites:List Int}{m:QM}:∀ {k:Nat},k<=m.code.length->(xah xs sites m k).begins.length=k
 | 0,_=>rfl
 | k+1,h=>by
  rw[xbg (List.getElem?_eq_getElem (by omega)),xel,List.length_append,xbF (by omega)];rfl
def xeh (begins:List Int)(x:QI):Option Int:=if (x.op=15\/x.op=16)/\0<=x.a then begins[x.a.toNat]? else none
def xdC (begins:List Int)(plain:List QI)(code:List QI):Nat->List QI
 | 0=>code
 | k+1=>match plain[k]?,begins[k]? with
  | some x,some b=>match xeh begins x with
   | some t=>(xdC begins plain code k).modify b.toNat fun y=>{ y with a:=t }
   | none=>xdC begins plain code k
  | _,_=>xdC begins plain code k
theorem xdi (begins:List Int)(plain code:List QI):∀ k,(xdC begins plain code k).length=code.length
 | 0=>rfl
 | k+1=>by
  unfold xdC
  split
  ·split
   ·rw[List.length_modify,xdi begins plain code k]
   ·exact xdi begins plain code k
  ·exact xdi begins plain code k
structure Fst where
 cls:Int
 name:ByteArray
 ez:Int
 temps:Int
 code:List QI
def xdw:Fst:=⟨0,⟨#[]⟩,0,0,[]⟩
def xce (X:QW)(c:Int)(m:QM)(sites:List Int):Fst × Bool:=
 let s:=xah X.cz sites m m.code.length
 if s.pieces=0 then (xdw,false) else (⟨c,m.name,X.ez,s.temps,xdC s.begins m.code s.code m.code.length⟩,true)
theorem xcr {p:Prop}(h:p):Hid p:=h
def xdh:Int->List Int->Bool
 | _,[]=>true
 | m,n :: r=>if n<0\/m<n then false else xdh (m-n) r
theorem xoi {α:Type}{xs:List α}{j:Nat}{x:α}(h:xs[j]?=some x):xs.drop j=x :: xs.drop (j+1):=by
 obtain⟨hj,rfl⟩:=List.getElem?_eq_some_iff.1 h
 exact List.drop_eq_getElem_cons hj
theorem xks {P:Nat->Prop}(ps:List Int)(v:Value)(m:Int)(w:World)(hm:0<=m/\m<=1000)(h:xc5 P w v ps):Calls Tryz.prog 65 #[.int .i64 m,v] w fun e w'=>e=.returned (.bool (xdh m ps))/\w'=w:=by
 obtain⟨ad,cap,rfl,hl,hcap,hby,hrow⟩:=h;go_enter Tryz.func65,Tryz.ntmps65;go_wp2
 go_loopg [0,9] ps.length (fun g mv c wr=>∃ (j:Nat) (mm:Int),j+g=ps.length/\c=.int .i64 j/\mv=.int .i64 mm/\(0<=mm/\mm<=1000)/\Hid (xdh m ps=xdh mm (ps.drop j))/\wr=w)
 case atStart=>exact⟨0,m,by omega,rfl,rfl,hm,rfl,rfl⟩
 case round=>
  obtain⟨j,mm,hj,rfl,rfl,⟨hm0,hm1⟩,HF,rfl⟩:=hrel
  by_cases hlt:j<ps.length
  ·have hx:ps[j]?=some ps[j]:=by simp[hlt]
   have HX:=xcr hx;obtain⟨b,o,rfl,-,y0⟩:=hrow j ps[j] hx;generalize ps[j]=x at *;have hj1:(j:Int)<(ps.length:Int):=by omega
   have hj0:(0:Int)<=(j:Int):=by omega
   replace y0:wr.cell? ⟨b,o+j,none⟩=some (.int .i64 x):=by simpa [xpr] using y0
   clear hrow hx;have HS:Hid (xdh m ps=if x<0\/mm<x then false else xdh (mm-x) (ps.drop (j+1))):=by show _=_;rw[HF.out,xoi HX.out];rfl
   by_cases h0:x<0
   ·have hd:decide (x<0)=true:=by simpa using h0
    have HR:Hid (xdh m ps=false):=by show _=_;rw[HS.out,if_pos (Or.inl h0)]
    clear h0;go_wp2
    go_ret
    exact⟨xby HR.out.symm,rfl⟩
   ·have hd:decide (x<0)=false:=by simpa using h0
    by_cases h1:mm<x
    ·have hd1:decide (mm<x)=true:=by simpa using h1
     have HR:Hid (xdh m ps=false):=by show _=_;rw[HS.out,if_pos (Or.inr h1)]
     clear h0 h1;go_wp2
     go_ret
     exact⟨xby HR.out.symm,rfl⟩
    ·have hd1:decide (mm<x)=false:=by simpa using h1
     have HR:Hid (xdh m ps=xdh (mm-x) (ps.drop (j+1))):=by show _=_;rw[HS.out,if_neg (by omega)]
     have hw:IntKind.i64.wrap (mm-x)=mm-x:=xat (by omega) (by omega)
     have HM:Hid (0<=mm-x/\mm-x<=1000):=by show _/\_;omega
     clear h0 h1;go_wp2
     go_roundg (gk-1)
     case measure=>omega
     case rel=>exact⟨j+1,mm-x,by omega,by go_num,rfl,HM.out,HR.out,rfl⟩
  ·obtain rfl:j=ps.length:=by omega
   have HR:Hid (xdh m ps=true):=by show _=_;rw[HF.out,List.drop_length];rfl
   go_wp2
   go_ret
   exact⟨xby HR.out.symm,rfl⟩
theorem xfT (x:QI)(n:Int)(w:World):Calls Tryz.prog 43 #[IV x,.int .i64 n] w fun e w'=>e=.returned (IV (xbh x n))/\Below w.heap.size w w':=by
 have hb2:=xbP w (.cells #[.int .i64 x.op,.int .i64 x.a,.int .i64 x.b,.int .i64 x.c,.string x.name] 57) (.cells #[.int .i64 0,.int .i64 0,.int .i64 0,.int .i64 0,.string ⟨#[]⟩] 57)
 by_cases h:x.op=14
 ·have hd:(x.op == 14)=true:=by simpa using h
  have HS:Hid (xbh x n={ x with c:=n }):=by show _=_;unfold xbh;rw[if_pos h]
  clear h;go_enter Tryz.func43,Tryz.ntmps43;go_wp2;refine qzK (v:=IV { x with c:=n }) ?_ rfl ⟨by rw[HS.out],?_⟩
  ·simp[results,Tryz.results43,go_sem]
  ·exact xbP _ _ _
 ·have hd:(x.op == 14)=false:=by simpa using h
  have HS:Hid (xbh x n=x):=by show _=_;unfold xbh;rw[if_neg h]
  clear h;go_enter Tryz.func43,Tryz.ntmps43;go_wp2;refine qzK (v:=IV x) ?_ rfl ⟨by rw[HS.out],?_⟩
  ·simp[results,Tryz.results43,go_sem]
  ·exact xbP _ _ _
abbrev PlV (self args temps first behind:Int):Value:=.agg #[.int .i64 self,.int .i64 args,.int .i64 temps,.int .i64 first,.int .i64 behind]
abbrev FsV (f:Fst)(kv:Value):Value:=.agg #[.int .i64 f.cls,.string f.name,.int .i64 f.ez,.int .i64 f.temps,kv]
theorem xjZ (self args temps first behind:Int)(x:QI)(w:World)(h1:0<=args/\args<=1000)(h2:0<=temps/\temps<=1000)(h3:0<=first/\first<=1000)(ha:(x.op=2\/x.op=3\/x.op=11\/x.op=15\/x.op=16)->0<=x.a/\x.a<=1000) :
  Calls Tryz.prog 66 #[PlV self args temps first behind,IV x] w fun e w'=>e=.returned (IV (xay self args temps first behind x))/\Below w.heap.size w w':=by
 obtain⟨y,HS⟩:∃ y,Hid (xay self args temps first behind x=y):=⟨_,rfl⟩
 have hb3:=fun (u:Array Value)=>xfL w (.cells #[.int .i64 self,.int .i64 args,.int .i64 temps,.int .i64 first,.int .i64 behind] 115) (.cells #[.int .i64 x.op,.int .i64 x.a,.int .i64 x.b,.int .i64 x.c,.string x.name] 57) (.cells u 57)
 go_enter Tryz.func66,Tryz.ntmps66
 by_cases g1:x.op=1
 ·have hd:(x.op == 1)=true:=by simpa using g1
  have HR:Hid (xay self args temps first behind x=ins 3 self 0 0):=by show _=_;unfold xay;rw[if_pos g1]
  clear g1 ha;go_wp2;refine qzK (v:=IV (ins 3 self 0 0)) ?_ rfl ⟨by rw[HR.out],hb3 _⟩
  simp[results,Tryz.results66,go_sem]
 have d1:(x.op == 1)=false:=by simpa using g1
 by_cases g2:x.op=2
 ·have hd:(x.op == 2)=true:=by simpa using g2
  have HR:Hid (xay self args temps first behind x=ins 3 (args+x.a) 0 0):=by show _=_;unfold xay;rw[if_neg g1,if_pos g2]
  have hw:IntKind.i64.wrap (args+x.a)=args+x.a:=by have:=ha (Or.inl g2);exact xat (by omega) (by omega)
  clear g1 g2 ha;go_wp2;refine qzK (v:=IV (ins 3 (args+x.a) 0 0)) ?_ rfl ⟨by rw[HR.out],hb3 _⟩
  simp[results,Tryz.results66,go_sem]
 have d2:(x.op == 2)=false:=by simpa using g2
 by_cases g3:x.op=3
 ·have hd:(x.op == 3)=true:=by simpa using g3
  have HR:Hid (xay self args temps first behind x=ins x.op (temps+x.a) 0 0):=by show _=_;unfold xay;rw[if_neg g1,if_neg g2,if_pos (Or.inl g3)]
  have hw:IntKind.i64.wrap (temps+x.a)=temps+x.a:=by have:=ha (Or.inr (Or.inl g3));exact xat (by omega) (by omega)
  clear g1 g2 g3 ha;go_wp2;refine qzK (v:=IV (ins x.op (temps+x.a) 0 0)) ?_ rfl ⟨by rw[HR.out],hb3 _⟩
  simp[results,Tryz.results66,go_sem]
 have d3:(x.op == 3)=false:=by simpa using g3
 by_cases g11:x.op=11
 ·have hd:(x.op == 11)=true:=by simpa using g11
  have HR:Hid (xay self args temps first behind x=ins x.op (temps+x.a) 0 0):=by show _=_;unfold xay;rw[if_neg g1,if_neg g2,if_pos (Or.inr g11)]
  have hw:IntKind.i64.wrap (temps+x.a)=temps+x.a:=by have:=ha (Or.inr (Or.inr (Or.inl g11)));exact xat (by omega) (by omega)
  clear g1 g2 g3 g11 ha;go_wp2;refine qzK (v:=IV (ins x.op (temps+x.a) 0 0)) ?_ rfl ⟨by rw[HR.out],hb3 _⟩
  simp[results,Tryz.results66,go_sem]
 have d11:(x.op == 11)=false:=by simpa using g11
 by_cases g4:x.op=4
 ·have hd:(x.op == 4)=true:=by simpa using g4
  have HR:Hid (xay self args temps first behind x=ins 19 self x.a 0):=by show _=_;unfold xay;rw[if_neg g1,if_neg g2,if_neg (by omega),if_pos g4]
  clear g1 g2 g3 g11 g4 ha;go_wp2;refine qzK (v:=IV (ins 19 self x.a 0)) ?_ rfl ⟨by rw[HR.out],hb3 _⟩
  simp[results,Tryz.results66,go_sem]
 have d4:(x.op == 4)=false:=by simpa using g4
 by_cases g12:x.op=12
 ·have hd:(x.op == 12)=true:=by simpa using g12
  have HR:Hid (xay self args temps first behind x=ins 20 self x.a 0):=by show _=_;unfold xay;rw[if_neg g1,if_neg g2,if_neg (by omega),if_neg g4,if_pos g12]
  clear g1 g2 g3 g11 g4 g12 ha;go_wp2;refine qzK (v:=IV (ins 20 self x.a 0)) ?_ rfl ⟨by rw[HR.out],hb3 _⟩
  simp[results,Tryz.results66,go_sem]
 have d12:(x.op == 12)=false:=by simpa using g12
 by_cases g15:x.op=15
 ·have hd:(x.op == 15)=true:=by simpa using g15
  have HR:Hid (xay self args temps first behind x=ins x.op (first+x.a) 0 0):=by show _=_;unfold xay;rw[if_neg g1,if_neg g2,if_neg (by omega),if_neg g4,if_neg g12,if_pos (Or.inl g15)]
  have hw:IntKind.i64.wrap (first+x.a)=first+x.a:=by have:=ha (Or.inr (Or.inr (Or.inr (Or.inl g15))));exact xat (by omega) (by omega)
  clear g1 g2 g3 g11 g4 g12 g15 ha;go_wp2;refine qzK (v:=IV (ins x.op (first+x.a) 0 0)) ?_ rfl ⟨by rw[HR.out],hb3 _⟩
  simp[results,Tryz.results66,go_sem]
 have d15:(x.op == 15)=false:=by simpa using g15
 by_cases g16:x.op=16
 ·have hd:(x.op == 16)=true:=by simpa using g16
  have HR:Hid (xay self args temps first behind x=ins x.op (first+x.a) 0 0):=by show _=_;unfold xay;rw[if_neg g1,if_neg g2,if_neg (by omega),if_neg g4,if_neg g12,if_pos (Or.inr g16)]
  have hw:IntKind.i64.wrap (first+x.a)=first+x.a:=by have:=ha (Or.inr (Or.inr (Or.inr (Or.inr g16))));exact xat (by omega) (by omega)
  clear g1 g2 g3 g11 g4 g12 g15 g16 ha;go_wp2;refine qzK (v:=IV (ins x.op (first+x.a) 0 0)) ?_ rfl ⟨by rw[HR.out],hb3 _⟩
  simp[results,Tryz.results66,go_sem]
 have d16:(x.op == 16)=false:=by simpa using g16
 by_cases g17:x.op=17
 ·have hd:(x.op == 17)=true:=by simpa using g17
  have HR:Hid (xay self args temps first behind x=ins 15 behind 0 0):=by show _=_;unfold xay;rw[if_neg g1,if_neg g2,if_neg (by omega),if_neg g4,if_neg g12,if_neg (by omega),if_pos g17]
  clear g1 g2 g3 g11 g4 g12 g15 g16 g17 ha;go_wp2;refine qzK (v:=IV (ins 15 behind 0 0)) ?_ rfl ⟨by rw[HR.out],hb3 _⟩
  simp[results,Tryz.results66,go_sem]
 have d17:(x.op == 17)=false:=by simpa using g17
 have HR:Hid (xay self args temps first behind x=x):=by show _=_;unfold xay;rw[if_neg g1,if_neg g2,if_neg (by omega),if_neg g4,if_neg g12,if_neg (by omega),if_neg g17]
 clear g1 g2 g3 g11 g4 g12 g15 g16 g17 ha;go_wp2;refine qzK (v:=IV x) ?_ rfl ⟨by rw[HR.out],hb3 _⟩
 simp[results,Tryz.results66,go_sem]
theorem xfv {w:World}(T ty e:TypeId)(z:Value)(sz bytes:Nat)(hT:Tryz.prog.underlying T=some (.slice e))(hI:(Tryz.prog.info? e).map (fun i=>(i.zero,i.size,i.bytes))=some (some z,sz,bytes))(hzs:z.cells.size=sz)(hsz:0<sz)
  (base n:Nat) (v:Value) (xs:List Value) (hown:ownsAt w base e sz v n xs) (ad:Addr) (k kc:Nat) (hk:0<k) (news:List Value) (hl:news.length=k*sz) (hnews:∀ j u,news[j]?=some u->w.cell? (ad.add j)=some u) (h1:∀ u∈news,u.oneCell'=true) (h63:n+k<=maxLen) (hby:(n+k)*bytes<=140737488355328) (hbase:base<=w.heap.size) :
  ∃ v' w',(Builtin.append_ #[T,T] ty #[v,.slice (some ad) k kc]).run Tryz.prog w=.ok v' w'/\ownsAt w' base e sz v' (n+k) (xs++news)/\(v'.ownBlock=v.ownBlock\/∃ g,v'.ownBlock=some g/\w.heap.size<=g)/\Below base w w'/\(∀ b,b<w.heap.size->some b≠v.ownBlock->w'.heap[b]?=w.heap[b]?):=by
 obtain⟨i0,hi,hz0,hz1,hz2⟩:=xa8 hI;obtain⟨hxl,⟨rfl,rfl⟩ | ⟨g,o,cap,cur,rfl,h3,h4,h5,h6,h7,h8⟩⟩:=id hown
 ·obtain⟨v',w',hrun,r1,r2,_⟩:=run_append_own (P:=Tryz.prog) w w.heap.size T ty e i0 z sz bytes hT hi hz0 hz1 hz2 hzs hsz (.slice none 0 0) 0 [] (World.ownsRow_nil w _ e sz) ad k kc news hl hnews h1 h63 hby (qzC _);have hxs:xs=[]:=List.eq_nil_of_length_eq_zero (by simpa using hxl)
  subst hxs;refine⟨v',w',hrun,xcK (by simpa using r1) hbase,Or.inr ?_,?_,fun b hb hne=>r2.block b hb hne⟩
  ·obtain⟨-,h | ⟨g,c,cur,e,h3,h4,-⟩⟩:=r1
   ·omega
   ·exact⟨g,by rw[e];rfl,h3⟩
  ·exact (qzL _ _).grown r2 hbase fun k hk=>by cases hk
 ·by_cases hr:n+k<=cap
  ·have hcs:cur.toList.length=cur.size:=by simp
   have hon:o+n*sz+news.length<=cur.size:=by
    have:(n+k)*sz<=cap*sz:=Nat.mul_le_mul_right _ hr;rw[Nat.add_mul] at this
    omega
   have hrun:=run_append_room_cells (P:=Tryz.prog) w T ty e i0 hT hi g o n cap ad k kc news (by rw[hz1];exact hl) hnews h1 hr (fun j hj=>by rw[hz1,qzB h4];simp;omega) (fun j hj=>by unfold World.frozen?;simp[h4])
   rw[hz1] at hrun;have hrow:=xcQ news (o+n*sz) w cur h4 hon;refine⟨_,_,hrun,⟨by rw[List.length_append,hxl,hl,Nat.add_mul],Or.inr ⟨g,o,cap,_,rfl,h3,hrow,hr,h6,?_,?_⟩⟩,Or.inl rfl,?_,fun b hb hne=>xa0 (fun e=>hne (by rw[e];rfl)) _ _ _⟩
   ·simp
    omega
   ·rw[← h8]
    apply List.ext_getElem?
    intro i;simp only[List.getElem?_take,List.getElem?_drop,List.getElem?_append,List.length_append,List.length_take,List.length_drop,hcs];have e1:min (o+n*sz) cur.size=o+n*sz:=by omega
    have e2:min (n*sz) (cur.size-o)=n*sz:=by omega
    rw[e1,e2];have e3:(n+k)*sz=n*sz+k*sz:=by rw[Nat.add_mul]
    rw[e3]
    by_cases g1:i<n*sz
    ·simp[g1,show i<n*sz+k*sz by omega,show o+i<o+n*sz by omega,show o+i<o+n*sz+news.length by omega]
    ·by_cases g2:i<n*sz+k*sz
     ·simp[g1,g2,show ¬ (o+i<o+n*sz) by omega,show o+i<o+n*sz+news.length by omega,show o+i-(o+n*sz)=i-n*sz by omega]
     ·simp[g1,g2]
      omega
   ·refine⟨?_,?_,?_,?_,fun k hk=>xa0 (by omega) _ _ _⟩
    ·exact (xbk _ _ _ _).os
    ·exact (xbk _ _ _ _).tape
    ·exact (xbk _ _ _ _).output
    ·rw[xbJ];exact qzC _
  ·obtain⟨v',w',hrun,r1,r2⟩:=run_append_arg_grows (P:=Tryz.prog) w T ty e i0 z sz bytes hT hi hz0 hz1 hz2 hzs hsz ⟨g,o,none⟩ n cap xs hxl (fun j u hu=>by
    rw[Addr.add_lit,qzB h4];rw[← h8,List.getElem?_take] at hu
    split at hu
    ·rw[List.getElem?_drop] at hu;simpa using hu
    ·cases hu) ad k kc news hl hnews (by omega) h63 hby
   refine⟨v',w',hrun,xcK r1 hbase,Or.inr ?_,?_,fun b hb hne=>r2.block b hb (by simp)⟩
   ·obtain⟨-,h | ⟨g,c,cur,e,h3,h4,-⟩⟩:=r1
    ·omega
    ·exact⟨g,by rw[e];rfl,h3⟩
   ·exact (qzL _ _).grown r2 hbase fun k hk=>by cases hk
theorem xfN {ops:Array Oper}{rest:List Oper}{o:Oper}{a:Act}{w:World}{Q:Exit->Act->World->Prop}(hgd:o.guard=none)(s x:Operand)(T e:TypeId)(z:Value)(sz bytes:Nat)
  (hop:o.op=Op.call { callee:=Callee.builtin Builtin.append,args:=#[s,x],argTypes:=#[T,T] }) (hT:Tryz.prog.underlying T=some (.slice e)) (hI:(Tryz.prog.info? e).map (fun i=>(i.zero,i.size,i.bytes))=some (some z,sz,bytes)) (hzs:z.cells.size=sz) (hsz:0<sz)
  (base n:Nat) (v:Value) (xs:List Value) (hs:a.eval s=v) (hown:ownsAt w base e sz v n xs) (ad:Addr) (k kc:Nat) (hk:0<k) (hx:a.eval x=.slice (some ad) k kc) (news:List Value) (hl:news.length=k*sz) (hnews:∀ j u,news[j]?=some u->w.cell? (ad.add j)=some u) (h1:∀ u∈news,u.oneCell'=true) (h63:n+k<=maxLen) (hby:(n+k)*bytes<=140737488355328) (hbase:base<=w.heap.size)
  (hK:∀ a' cap' w',ownsAt w' base e sz (.slice a' (n+k) cap') (n+k) (xs++news)->((Value.slice a' (n+k) cap').ownBlock=v.ownBlock\/∃ g,(Value.slice a' (n+k) cap').ownBlock=some g/\w.heap.size<=g)->Below base w w'->(∀ b,b<w.heap.size->some b≠v.ownBlock->w'.heap[b]?=w.heap[b]?)->wpList Tryz.prog ops Q rest (a.put o.dst (.slice a' (n+k) cap')) w') :
  wpList Tryz.prog ops Q (o :: rest) a w:=by
 refine wpList_plain hgd fun K hKK=>?_
 obtain⟨v',w',hrun,r1,r2,r3,r4⟩:=xfv T o.type e z sz bytes hT hI hzs hsz base n v xs hown ad k kc hk news hl hnews h1 h63 hby hbase;obtain⟨a',cap',rfl,-⟩:=r1.form;unfold Oper.wp
 simp[execOp,hop,resolve,invoke,builtin,hs,hx,hrun,Result.andThen]
 exact hKK _ _ (hK a' cap' w' r1 r2 r3 r4)
theorem xf6 {α:Type}{E:Lay α}{sz bytes:Nat}(G:Good E sz){t:TypeId}{Q:Nat->Prop}{B n:Nat}{v:Value}{w:World}{cs:List Value}{xs:List α}(hown:ownsAt w B t sz v n cs)(hc:Cells E sz Q w cs xs)(hn:xs.length=n)(hQ:∀ b,B<=b->b<w.heap.size->Q b)(hby:n*bytes<=140737488351232):IsRow E sz bytes Q w v xs:=by
 obtain⟨h0,⟨rfl,h1⟩ | ⟨g,o,cap,cur,rfl,h3,h4,h5,h6,h7,h8⟩⟩:=hown
 ·obtain rfl:=List.eq_nil_of_length_eq_zero (hn.trans h1)
  exact xbn
 ·subst hn;refine⟨_,_,rfl,h5,h6,hby,fun i x hx=>⟨g,o,rfl,hQ _ h3 (xal h4),G.move (hc.2 i x hx) (fun _ h=>h) (.refl _ _) fun k hk v hv=>?_⟩⟩
  rw[← h8,List.getElem?_take] at hv
  split at hv
  ·rw[List.getElem?_drop] at hv;rw[qzB h4,Nat.add_assoc]
   simpa using hv
  ·cases hv
def xa9:List QI->List Value
 | []=>[]
 | x :: r=>.int .i64 x.op :: .int .i64 x.a :: .int .i64 x.b :: .int .i64 x.c :: .string x.name :: xa9 r
theorem xdT:∀ q,(xa9 q).length=q.length*5
 | []=>rfl
 | p :: q=>by simp[xa9,xdT q];omega
theorem xeJ:∀ q r,xa9 (q++r)=xa9 q++xa9 r
 | [],r=>rfl
 | p :: q,r=>by simp[xa9,xeJ q r]
theorem xho:∀ (q:List QI),∀ u∈xa9 q,u.oneCell'=true
 | [],u,h=>by simp[xa9] at h
 | p :: q,u,h=>by
  simp only[xa9,List.mem_cons] at h
  rcases h with rfl | rfl | rfl | rfl | rfl | h
  ·rfl
  ·rfl
  ·rfl
  ·rfl
  ·rfl
  ·exact xho q u h
theorem xhc:∀ {q:List QI} {i:Nat} {x:QI},q[i]?=some x->(xa9 q)[i*5]?=some (.int .i64 x.op)/\(xa9 q)[i*5+1]?=some (.int .i64 x.a)/\(xa9 q)[i*5+2]?=some (.int .i64 x.b)/\(xa9 q)[i*5+3]?=some (.int .i64 x.c)/\(xa9 q)[i*5+4]?=some (.string x.name)
 | [],i,x,h=>by simp at h
 | p :: q,0,x,h=>by simp at h;subst h;exact⟨rfl,rfl,rfl,rfl,rfl⟩
 | p :: q,i+1,x,h=>by
  have:=xhc (q:=q) (i:=i) (x:=x) (by simpa using h)
  rw[show (i+1)*5=i*5+1+1+1+1+1 by omega]
  exact this
def NmOk (xs:List QI):Prop:=∀ x∈xs,x.name.size<=140737488351232
theorem NmOk.append {xs ys:List QI}(h:NmOk xs)(k:NmOk ys):NmOk (xs++ys):=fun x hx=>by
 rcases List.mem_append.1 hx with h' | h'
 ·exact h x h'
 ·exact k x h'
theorem xiE {P:Nat->Prop}{w:World}{xs:List QI}(h:NmOk xs):Cells xeu 5 P w (xa9 xs) xs:=⟨xdT _,fun i x hx=>by
 obtain⟨h0,h1,h2,h3,h4⟩:=xhc hx
 exact⟨by simpa using h0,h1,h2,h3,h4,h x (List.mem_of_getElem? hx)⟩⟩
theorem xrl {P:Nat->Prop}{w:World}{B:Nat}{v:Value}{xs:List QI}(h:ownsAt w B 57 5 v xs.length (xa9 xs))(hn:NmOk xs)(hP:∀ b,B<=b->b<w.heap.size->P b)(hl:xs.length<=100000):xaR P w v xs:=xf6 xa2 h (xiE hn) rfl hP (by omega)
section
variable {P:Program} {md:Region.Mode} {ops:Array Oper} {Q:Exit->Act->World->Prop} {S:World->Prop}
def xdy (P:Program)(md:Region.Mode)(ops:Array Oper)(Q:Exit->Act->World->Prop)(S:World->Prop)(L:Nat):Nat->Array Bool->Act->World->Prop
 | 0,listed,a,w=>Region.ready md ops listed=[]/\Q .normal a w
 | fuel+1,listed,a,w=>
  (Region.ready md ops listed=[]->Q .normal a w)/\
  ∀ i∈Region.ready md ops listed,wpOp P ops Q i (fun a' w'=>(i≠L->S w')/\xdy P md ops Q S L fuel (listed.setIfInBounds i true) a' w') a w
theorem xex {L:Nat}:∀ (fuel:Nat) (listed:Array Bool) (a:Act) (w:World),xdy P md ops Q S L fuel listed a w->wpAny P md ops Q fuel listed a w
 | 0,_,_,_,h=>h
 | fuel+1,_,_,_,h=>⟨h.1,fun i hi=>wpOp_mono (fun a' w' h'=>xex fuel _ a' w' h'.2) (h.2 i hi)⟩
def xo6 (md:Region.Mode)(ops:Array Oper)(L:Nat):Bool:=
 match ops[L]? with
 | none=>false
 | some o=>(List.range ops.size).all fun k=>k == L || o.after.any fun e=>Region.binds md e && e.on == k
theorem xjO {L i:Nat}{listed:Array Bool}(h:xo6 md ops L=true)(hi:i∈Region.ready md ops listed)(hL:L∈Region.ready md ops listed):i=L:=by
 by_cases hne:i=L
 ·exact hne
 ·obtain⟨hjun,oj,hoj,hall⟩:=mem_ready.1 hL;obtain⟨hiun,oi,hoi,-⟩:=mem_ready.1 hi;unfold xo6 at h;rw[hoj] at h;simp only[List.all_eq_true,List.mem_range] at h;have hlt:i<ops.size:=(Array.getElem?_eq_some_iff.1 hoi).1;have:=h i hlt;simp only[Bool.or_eq_true,beq_iff_eq,hne,false_or,Array.any_eq_true,Bool.and_eq_true] at this;obtain⟨x,hx,hb,ho⟩:=this;have h1:=hall _ (Array.getElem_mem hx) hb;rw[ho] at h1
  rcases Nat.lt_or_ge i listed.size with h' | h'
  ·simp[h'] at hiun h1
   rw[hiun] at h1
   cases h1
  ·simp[Array.getElem?_eq_none h'] at h1
theorem xiy {L i:Nat}{oi:Oper}{v:Value}(hlast:xo6 md ops L=true)(hiL:i≠L)(hi:ops[i]?=some oi)(hsel:∀ (j:Nat) (o:Oper) cs b,ops[j]?=some o->o.op≠.select cs b)
  (hQ:∀ c a w,Q (.panic c) (a.put oi.dst v) w->Q (.panic c) a w) :
  ∀ (fuel:Nat) (listed:Array Bool) (a:Act) (w:World),
   (∀ j oj,ops[j]?=some oj->j≠i->listed.getD j true=false->(∀ e∈oj.after,Region.binds md e=true->e.on≠i)->oi.apart ops oj=true)->
   i∈Region.ready md ops listed->YieldsIf P ops S oi v a->S w->
   xdy P md ops Q S L fuel (listed.setIfInBounds i true) (a.put oi.dst v) w->xdy P md ops Q S L (fuel+1) listed a w:=by
 intro fuel
 induction fuel with
 | zero=>
  intro listed a w _ hr hy hS H;refine⟨fun h=>(by rw[h] at hr;cases hr),fun j hj=>?_⟩
  by_cases hji:j=i
  ·subst hji;exact hy.wpOp hi hS ⟨fun _=>hS,H⟩
  ·have:=ready_mono hj hji;rw[H.1] at this
   cases this
 | succ fuel ih=>
  intro listed a w hfree hr hy hS H;refine⟨fun h=>(by rw[h] at hr;cases hr),fun j hj=>?_⟩
  by_cases hji:j=i
  ·subst hji;exact hy.wpOp hi hS ⟨fun _=>hS,H⟩
  ·have hjL:j≠L:=fun e=>by subst e;exact hji (xjO hlast hr hj).symm
   have h1:=H.2 j (ready_mono hj hji);obtain⟨hjun,oj,hoj,hall⟩:=mem_ready.1 hj
   have hnot:∀ e∈oj.after,Region.binds md e=true->e.on≠i:=fun e he hb heq=>by
    have h1:=hall e he hb;have h0:=(mem_ready.1 hr).1;rw[heq] at h1
    rcases Nat.lt_or_ge i listed.size with h' | h'
    ·simp[h'] at h0 h1;rw[h0] at h1;cases h1
    ·simp[Array.getElem?_eq_none h'] at h1
   have h2:=wpOp_putIf hoj (hfree j oj hoj hji hjun hnot) (fun cs b=>hsel i oi cs b hi) (fun cs b=>hsel j oj cs b hoj) hQ hy h1
   have hfree':∀ k ok,ops[k]?=some ok->k≠i->(listed.setIfInBounds j true).getD k true=false->
     (∀ e∈ok.after,Region.binds md e=true->e.on≠i)->oi.apart ops ok=true:=fun k ok hk hki hun hno=>by
    refine hfree k ok hk hki ?_ hno
    by_cases hjk:j=k
    ·subst hjk;exact hjun
    ·rw[getD_set_ne true hjk] at hun;exact hun
   refine wpOp_mono (fun a' w' h3=>⟨fun _=>h3.2.1 hjL,ih (listed.setIfInBounds j true) a' w' hfree' (ready_mono hr (Ne.symm hji)) h3.1 (h3.2.1 hjL) ?_⟩) h2
   rw[Array.setIfInBounds_comm _ _ hji]
   exact h3.2.2
theorem xbI {L i:Nat}{oi:Oper}{v:Value}{fuel:Nat}{listed:Array Bool}{a:Act}{w:World}(hlast:xo6 md ops L=true)(hiL:(i == L)=false)(hi:ops[i]?=some oi)
  (hs:Region.noSelect ops=true) (hf:Region.free md ops listed i=true) (hr:(Region.ready md ops listed).contains i=true)
  (hQ:∀ c a w,Q (.panic c) (a.put oi.dst v) w->Q (.panic c) a w) (hy:YieldsIf P ops S oi v a) (hS:S w)
  (h:xdy P md ops Q S L fuel (listed.setIfInBounds i true) (a.put oi.dst v) w):xdy P md ops Q S L (fuel+1) listed a w:=
 xiy hlast (by simpa using hiL) hi (Region.noSelect_spec hs) hQ fuel listed a w (Region.free_spec hi hf) (by simpa using hr) hy hS h
theorem xjh {L:Nat}{listed:Array Bool}{a:Act}{w:World}(hr:Region.ready md ops listed=[])(h:Q .normal a w):∀ fuel,xdy P md ops Q S L fuel listed a w
 | 0=>⟨hr,h⟩
 | _+1=>⟨fun _=>h,by rw[hr];simp⟩
theorem xcV {L:Nat}{rs:List Nat}{fuel:Nat}{listed:Array Bool}{a:Act}{w:World}(hr:Region.ready md ops listed=rs)(hne:rs≠[])
  (h:∀ i∈rs,wpOp P ops Q i (fun a' w'=>(i≠L->S w')/\xdy P md ops Q S L fuel (listed.setIfInBounds i true) a' w') a w):xdy P md ops Q S L (fuel+1) listed a w:=
 ⟨fun h0=>absurd (hr ▸ h0) hne,hr ▸ h⟩
theorem xn0 {L i:Nat}{fuel:Nat}{listed:Array Bool}{a:Act}{w:World}{o:Oper}(ho:ops[i]?=some o)
  (h:∀ K':Act->World->Prop,(∀ a w,(i≠L->S w)->xdy P md ops Q S L fuel (listed.setIfInBounds i true) a w->K' a w)->if Region.wanted o (yielded ops a.tmps)=true then Oper.wp P o a w K' Q else K' (a.put o.dst undef) w) :
  wpOp P ops Q i (fun a' w'=>(i≠L->S w')/\xdy P md ops Q S L fuel (listed.setIfInBounds i true) a' w') a w:=
 wpOp_step ho (fun K' hK=>h K' (fun a w hS hW=>hK a w ⟨hS,hW⟩))
theorem xgK {id:Nat}{a:Act}{w:World}(L:Nat)(hm:P.follows .mixedOrders=true)
  (h:xdy P .any ops Q S L ops.size (Array.replicate ops.size false) a w.drew):(Code.region id ops true).wp P Q a w:=
 wp_region_any hm (xex _ _ _ _ h)
end
end Go.Proofs.YtaodadfahifbpaaGreat
