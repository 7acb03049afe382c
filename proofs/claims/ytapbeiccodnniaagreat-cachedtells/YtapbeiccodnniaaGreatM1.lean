/- A part. -/
import Derived.Test.YtapbeiccodnniaaGreatM0
import Derived.Deep.RegionLawGrows
namespace Go.Proofs.YtapbeiccodnniaaGreat
open Go.ChangeShapes Go.WideShapes Go.ChangeAt Go.RowKit
set_option linter.unusedSimpArgs false
set_option linter.unusedVariables false
set_option maxHeartbeats 8000000
structure QS where
 cls:Int
 name:ByteArray
 at':Int
structure QL where
 cls:Int
 found:Int
structure QT where
 site:QS
 lz:List QL
structure QE where
 site:QS
 ez:Int
 many:Bool
 lz:List QL
def xda:Lay QL:=fun _ _ f x=>f 0=some (.int .i64 x.cls)/\f 1=some (.int .i64 x.found)
abbrev xbI:=IsRow xda 2 0
def xrw:Lay QS:=fun _ _ f x=>f 0=some (.int .i64 x.cls)/\f 1=some (.string x.name)/\f 2=some (.int .i64 x.at')
def xf7:Lay QT:=fun P w f x=>f 0=some (.int .i64 x.site.cls)/\f 1=some (.string x.site.name)/\f 2=some (.int .i64 x.site.at')/\∃ v,f 3=some v/\xbI P w v x.lz
abbrev xbc:=IsRow xf7 4 0
def xhq:Lay QE:=fun P w f x=>f 0=some (.int .i64 x.site.cls)/\f 1=some (.string x.site.name)/\f 2=some (.int .i64 x.site.at')/\f 3=some (.int .i64 x.ez)/\f 4=some (.bool x.many)/\∃ v,f 5=some v/\xbI P w v x.lz
abbrev xbk:=IsRow xhq 6 0
theorem xbq:Good xda 2 where
 move h _ _ hf:=⟨hf 0 (by omega) _ h.1,hf 1 (by omega) _ h.2⟩
 there h k hk:=by
  obtain⟨h0,h1⟩:=h
  match k,hk with
  | 0,_=>exact⟨_,h0,rfl⟩
  | 1,_=>exact⟨_,h1,rfl⟩
 pos:=by omega
theorem xbZ:Good xf7 4 where
 move h hl hk hf:=by
  obtain⟨h0,h1,h2,v,h5,h6⟩:=h
  exact⟨hf 0 (by omega) _ h0,hf 1 (by omega) _ h1,hf 2 (by omega) _ h2,v,hf 3 (by omega) _ h5,h6.keep xbq hk hl⟩
 there h k hk:=by
  obtain⟨h0,h1,h2,v,h5,h6⟩:=h
  match k,hk with
  | 0,_=>exact⟨_,h0,rfl⟩
  | 1,_=>exact⟨_,h1,rfl⟩
  | 2,_=>exact⟨_,h2,rfl⟩
  | 3,_=>exact⟨_,h5,xcO h6⟩
 pos:=by omega
theorem xbw:Good xhq 6 where
 move h hl hk hf:=by
  obtain⟨h0,h1,h2,h3,h4,v,h5,h6⟩:=h
  exact⟨hf 0 (by omega) _ h0,hf 1 (by omega) _ h1,hf 2 (by omega) _ h2,hf 3 (by omega) _ h3,hf 4 (by omega) _ h4,v,hf 5 (by omega) _ h5,h6.keep xbq hk hl⟩
 there h k hk:=by
  obtain⟨h0,h1,h2,h3,h4,v,h5,h6⟩:=h
  match k,hk with
  | 0,_=>exact⟨_,h0,rfl⟩
  | 1,_=>exact⟨_,h1,rfl⟩
  | 2,_=>exact⟨_,h2,rfl⟩
  | 3,_=>exact⟨_,h3,rfl⟩
  | 4,_=>exact⟨_,h4,rfl⟩
  | 5,_=>exact⟨_,h5,xcO h6⟩
 pos:=by omega
abbrev SV (x:QS):Value:=.agg #[.int .i64 x.cls,.string x.name,.int .i64 x.at']
abbrev LV (x:QL):Value:=.agg #[.int .i64 x.cls,.int .i64 x.found]
structure SiteAt (w:World)(b:Nat)(x:QS):Prop where
 c0:w.cell? ⟨b,0,none⟩=some (.int .i64 x.cls)
 c1:w.cell? ⟨b,1,none⟩=some (.string x.name)
 c2:w.cell? ⟨b,2,none⟩=some (.int .i64 x.at')
theorem SiteAt.later {w w':World}{b:Nat}{x:QS}(h:SiteAt w b x)(hb:Below w.heap.size w w'):SiteAt w' b x:=⟨qzA hb h.c0,qzA hb h.c1,qzA hb h.c2⟩
theorem xeS (w:World)(x:QS)(t:TypeId):SiteAt (w.alloc (.cells #[.int .i64 x.cls,.string x.name,.int .i64 x.at'] t)) w.heap.size x:=⟨by rw[xaa _ _ _ _ rfl];rfl,by rw[xaa _ _ _ _ rfl];rfl,by rw[xaa _ _ _ _ rfl];rfl⟩
def eqS (a b:QS):Bool:=a.cls == b.cls && (eqN a.name b.name && a.at' == b.at')
theorem xrt (x y:QS)(w:World):(binOp .eql 67 (SV x) (SV y)).run Tryz.prog w=.ok (.bool (eqS x y)) w:=by
 have u3:=Tryz.underlying3;have a3:=Tryz.isAgg3;have z3:=Tryz.sizeOf3;have u9:=Tryz.underlying9;have a9:=Tryz.isAgg9;have z9:=Tryz.sizeOf9;have hS:Tryz.prog.underlying 67=some (.struct (Tryz.prog.fieldsOf 67)):=by kernel_rfl
 have hp:Tryz.prog.stoodInHeld 67=false:=by kernel_rfl
 rw[run_eql_struct,show (10000:Nat)=9999+1 from rfl,run_equalIn_struct w 9999 67 _ _ hS hp]
 simp only[Program.fieldsOf,Tryz.underlying67];go_simp;unfold eqS eqN
 by_cases h1:x.cls=y.cls<;>by_cases h2:x.name.toList=y.name.toList<;>by_cases h3:x.at'=y.at'<;>simp[h1,h2,h3]
theorem neqS (x y:QS)(w:World):(binOp .neq 67 (SV x) (SV y)).run Tryz.prog w=.ok (.bool (!eqS x y)) w:=by
 have u3:=Tryz.underlying3;have a3:=Tryz.isAgg3;have z3:=Tryz.sizeOf3;have u9:=Tryz.underlying9;have a9:=Tryz.isAgg9;have z9:=Tryz.sizeOf9;have hS:Tryz.prog.underlying 67=some (.struct (Tryz.prog.fieldsOf 67)):=by kernel_rfl
 have hp:Tryz.prog.stoodInHeld 67=false:=by kernel_rfl
 rw[run_neq_struct,show (10000:Nat)=9999+1 from rfl,run_equalIn_struct w 9999 67 _ _ hS hp]
 simp only[Program.fieldsOf,Tryz.underlying67];go_simp;unfold eqS eqN
 by_cases h1:x.cls=y.cls<;>by_cases h2:x.name.toList=y.name.toList<;>by_cases h3:x.at'=y.at'<;>simp[h1,h2,h3]
theorem xmV (a b:ByteArray):eqN a b=true ↔ a=b:=by
 unfold eqN;rw[ByteArray.toList_eq,ByteArray.toList_eq];obtain⟨⟨x⟩⟩:=a;obtain⟨⟨y⟩⟩:=b
 simp
theorem xcf (a b:QS):eqS a b=true ↔ a=b:=by
 unfold eqS;obtain⟨a1,a2,a3⟩:=a;obtain⟨b1,b2,b3⟩:=b
 simp[xmV]
theorem xi4:(Tryz.prog.info? 72).map (fun i=>(i.zero,i.size,i.bytes))=some (some (.agg #[.int .i64 0,.int .i64 0]),2,16):=by kernel_rfl
theorem xjV:(Tryz.prog.info? 72).map (·.size)=some 2:=by kernel_rfl
theorem xgj {T e:TypeId}{zs:Array Value}{sz by':Nat}(hu:Tryz.prog.underlying T=some (.slice e))(hI:(Tryz.prog.info? e).map (fun i=>(i.zero,i.size,i.bytes))=some (some (.agg zs),sz,by'))(hp:0<by')(n:Nat)(hb:n*by'<=281474976710656)(hc:(Value.agg zs).cells=zs)(w:World):(Instr.makeSlice T (.int .i64 (n:Int)) (.int .i64 (n:Int))).run Tryz.prog w=.ok (.slice (some ⟨w.heap.size,0,none⟩) n n) (w.alloc (.cells (madeCells zs (n*sz)) e)):=by
 obtain⟨i0,hi,hz0,hz1,hz2⟩:=xa3 hI;have hn:n<=n*by':=Nat.le_mul_of_pos_right _ hp
 have:=run_make (P:=Tryz.prog) w T e i0 _ hu hi hz0 .i64 .i64 n n (by omega) (by omega) (by rw[hz2];rw[Nat.mul_comm] at *;omega) (by omega)
 rw[this,hz1,hc]
 simp
theorem xfE (n:Nat)(hb:n*16<=281474976710656):xey 68 72 #[.int .i64 0,.int .i64 0] 2 n:=fun w=>xgj Tryz.underlying68 xi4 (by omega) n hb rfl w
theorem xge {P:Nat->Prop}(xs:List QL)(v:Value)(w:World)(hh:xbI P w v xs)(hby:xs.length*16<=281474976710656):Calls Tryz.prog 40 #[v] w fun e w'=>∃ g,e=.returned (.slice (some ⟨g,0,none⟩) xs.length xs.length)/\OwnSt xda 2 72 w' g xs xs.length/\w.heap.size<=g/\Below w.heap.size w w':=by
 obtain⟨ad,cap,rfl,hl,hcap,-,hrow⟩:=hh;have hmk:=xfE xs.length hby;obtain⟨cs,hcs,hsrc⟩:=hrow.cells xbq
 obtain⟨w1,hcp,h2,h3⟩:=xb5 (P:=Tryz.prog) (w.alloc (.cells (madeCells #[.int .i64 0,.int .i64 0] (xs.length*2)) 72)) 68 68 3 72 2 w.heap.size xs.length xs.length ad cap (madeCells #[.int .i64 0,.int .i64 0] (xs.length*2)) 72 cs Tryz.underlying68 xjV (qzJ w _) hcs.1
  (fun j v hj=>by obtain⟨a,e,h⟩:=hsrc j v hj;exact⟨a,e,qzA (xaj _ _) h⟩) (size_madeCells _ _) (hcs.all xbq)
 have HB:=h3 w.heap.size w (xaj _ _) (qzC _)
 have HV:Hid (OwnSt xda 2 72 w1 w.heap.size xs xs.length):=by
  refine⟨⟨cs.toArray,h2,by simpa using hcs.1⟩,fun i x hi hx=>?_⟩
  have:=hcs.2 i x hx
  exact⟨by show w1.cell? _=_;rw[qzB h2];simpa using this.1,by show w1.cell? _=_;rw[qzB h2];simpa using this.2⟩
 clear h2 h3 hrow hcs hsrc;go_enter Tryz.func40,Tryz.ntmps40;go_wp2
 go_ret
 exact⟨_,rfl,HV.out,qzC _,HB⟩
theorem xgy {P:Nat->Prop}(xs:List QL)(v:Value)(w:World)(hh:xbI P w v xs)(hby:xs.length*16<=281474976710656):Calls Tryz.prog 39 #[v] w fun e w'=>∃ g,e=.returned (.slice (some ⟨g,0,none⟩) xs.length xs.length)/\OwnSt xda 2 72 w' g xs xs.length/\w.heap.size<=g/\Below w.heap.size w w':=by
 obtain⟨ad,cap,rfl,hl,hcap,-,hrow⟩:=hh;have hmk:=xfE xs.length hby;obtain⟨cs,hcs,hsrc⟩:=hrow.cells xbq
 obtain⟨w1,hcp,h2,h3⟩:=xb5 (P:=Tryz.prog) (w.alloc (.cells (madeCells #[.int .i64 0,.int .i64 0] (xs.length*2)) 72)) 68 68 3 72 2 w.heap.size xs.length xs.length ad cap (madeCells #[.int .i64 0,.int .i64 0] (xs.length*2)) 72 cs Tryz.underlying68 xjV (qzJ w _) hcs.1
  (fun j v hj=>by obtain⟨a,e,h⟩:=hsrc j v hj;exact⟨a,e,qzA (xaj _ _) h⟩) (size_madeCells _ _) (hcs.all xbq)
 have HB:=h3 w.heap.size w (xaj _ _) (qzC _)
 have HV:Hid (OwnSt xda 2 72 w1 w.heap.size xs xs.length):=by
  refine⟨⟨cs.toArray,h2,by simpa using hcs.1⟩,fun i x hi hx=>?_⟩
  have:=hcs.2 i x hx
  exact⟨by show w1.cell? _=_;rw[qzB h2];simpa using this.1,by show w1.cell? _=_;rw[qzB h2];simpa using this.2⟩
 clear h2 h3 hrow hcs hsrc;go_enter Tryz.func39,Tryz.ntmps39;go_wp2
 go_ret
 exact⟨_,rfl,HV.out,qzC _,HB⟩
abbrev TV (x:QT)(lv:Value):Value:=.agg #[.int .i64 x.site.cls,.string x.site.name,.int .i64 x.site.at',lv]
abbrev EV (x:QE)(lv:Value):Value:=.agg #[.int .i64 x.site.cls,.string x.site.name,.int .i64 x.site.at',.int .i64 x.ez,.bool x.many,lv]
theorem xdF {P:Nat->Prop}(cap':Value)(p:QL->Bool)(xs:List QL)(v:Value)(w:World)(hh:IsRow xda 2 0 P w v xs)
  (hF:∀ (x:QL) (w':World),Below w.heap.size w w'->Calls Tryz.prog 86 #[LV x,cap'] w' fun e w''=>e=.returned (.bool (p x))/\Below w'.heap.size w' w'') :
  Calls Tryz.prog 85 #[v,.func (.func 86) #[] #[cap']] w fun e w'=>e=.returned (.int .i64 (xbt p xs))/\Below w.heap.size w w':=by
 obtain⟨ad,cap,rfl,hl,hcap,-,hrow⟩:=hh;unfold maxLen at hcap;go_enter Tryz.func85,Tryz.ntmps85;go_wp2
 go_loopg [8] xs.length (fun g c wr=>∃ j:Nat,j+g=xs.length/\c=.int .i64 j/\Below w.heap.size w wr/\∀ i y,i<j->xs[i]?=some y->p y=false)
 case atStart=>exact⟨0,by omega,rfl,qzL _ _,fun i y hi=>by omega⟩
 case round=>
  obtain⟨j,hj,rfl,hbel,hno⟩:=hrel;have HN:Hid (∀ i y,i<j->xs[i]?=some y->p y=false):=hno;clear hno
  by_cases hlt:j<xs.length
  ·obtain⟨b,o,rfl,-,hv0,hv1⟩:=hrow j xs[j] (by simp[hlt])
   have hxj:Hid (xs[j]?=some xs[j]):=by show _=_;simp[hlt]
   generalize xs[j]=x at *;simp only[Nat.add_zero] at hv0;have u0:=qzA hbel hv0;have u1:=qzA hbel hv1;clear hv0 hv1 hrow;have hj1:(j:Int)<(xs.length:Int):=by omega
   have hj0:(0:Int)<=(j:Int):=by omega
   go_wp2_with fail;refine (hF x _ hbel).mono ?_;rintro e w1 ⟨rfl,hb⟩
   by_cases hp:p x=true
   ·go_wp2
    go_ret
    exact⟨xak (xb4 hxj.out hp HN.out).symm,xah hbel hb⟩
   ·have hp':p x=false:=by simpa using hp
    clear hp;go_wp2
    go_roundg (gk-1)
    case measure=>omega
    case rel=>
     refine⟨j+1,by omega,by go_num,xah hbel hb,fun i y hi hy=>?_⟩
     by_cases hij:i=j
     ·subst hij;rw[hxj.out] at hy;cases hy;exact hp'
     ·exact HN.out i y (by omega) hy
  ·obtain rfl:j=xs.length:=by omega
   go_wp2
   go_ret
   exact⟨xak (xbM fun i y hy=>HN.out i y (xae hy) hy).symm,hbel⟩
theorem xij {P:Nat->Prop}(cap':Value)(p:QL->Bool)(xs:List QL)(v:Value)(w:World)(hh:IsRow xda 2 0 P w v xs)
  (hF:∀ (x:QL) (w':World),Below w.heap.size w w'->Calls Tryz.prog 98 #[LV x,cap'] w' fun e w''=>e=.returned (.bool (p x))/\Below w'.heap.size w' w'') :
  Calls Tryz.prog 85 #[v,.func (.func 98) #[] #[cap']] w fun e w'=>e=.returned (.int .i64 (xbt p xs))/\Below w.heap.size w w':=by
 obtain⟨ad,cap,rfl,hl,hcap,-,hrow⟩:=hh;unfold maxLen at hcap;go_enter Tryz.func85,Tryz.ntmps85;go_wp2
 go_loopg [8] xs.length (fun g c wr=>∃ j:Nat,j+g=xs.length/\c=.int .i64 j/\Below w.heap.size w wr/\∀ i y,i<j->xs[i]?=some y->p y=false)
 case atStart=>exact⟨0,by omega,rfl,qzL _ _,fun i y hi=>by omega⟩
 case round=>
  obtain⟨j,hj,rfl,hbel,hno⟩:=hrel;have HN:Hid (∀ i y,i<j->xs[i]?=some y->p y=false):=hno;clear hno
  by_cases hlt:j<xs.length
  ·obtain⟨b,o,rfl,-,hv0,hv1⟩:=hrow j xs[j] (by simp[hlt])
   have hxj:Hid (xs[j]?=some xs[j]):=by show _=_;simp[hlt]
   generalize xs[j]=x at *;simp only[Nat.add_zero] at hv0;have u0:=qzA hbel hv0;have u1:=qzA hbel hv1;clear hv0 hv1 hrow;have hj1:(j:Int)<(xs.length:Int):=by omega
   have hj0:(0:Int)<=(j:Int):=by omega
   go_wp2_with fail;refine (hF x _ hbel).mono ?_;rintro e w1 ⟨rfl,hb⟩
   by_cases hp:p x=true
   ·go_wp2
    go_ret
    exact⟨xak (xb4 hxj.out hp HN.out).symm,xah hbel hb⟩
   ·have hp':p x=false:=by simpa using hp
    clear hp;go_wp2
    go_roundg (gk-1)
    case measure=>omega
    case rel=>
     refine⟨j+1,by omega,by go_num,xah hbel hb,fun i y hi hy=>?_⟩
     by_cases hij:i=j
     ·subst hij;rw[hxj.out] at hy;cases hy;exact hp'
     ·exact HN.out i y (by omega) hy
  ·obtain rfl:j=xs.length:=by omega
   go_wp2
   go_ret
   exact⟨xak (xbM fun i y hy=>HN.out i y (xae hy) hy).symm,hbel⟩
theorem xih {P:Nat->Prop}(cap':Value)(p:QT->Bool)(xs:List QT)(v:Value)(w:World)(hh:IsRow xf7 4 0 P w v xs)
  (hF:∀ (x:QT) (a:Option Addr) (n c:Nat) (w':World),Below w.heap.size w w'->Calls Tryz.prog 65 #[TV x (.slice a n c),cap'] w' fun e w''=>e=.returned (.bool (p x))/\Below w'.heap.size w' w'') :
  Calls Tryz.prog 64 #[v,.func (.func 65) #[] #[cap']] w fun e w'=>e=.returned (.int .i64 (xbt p xs))/\Below w.heap.size w w':=by
 obtain⟨ad,cap,rfl,hl,hcap,-,hrow⟩:=hh;unfold maxLen at hcap;go_enter Tryz.func64,Tryz.ntmps64;go_wp2
 go_loopg [8] xs.length (fun g c wr=>∃ j:Nat,j+g=xs.length/\c=.int .i64 j/\Below w.heap.size w wr/\∀ i y,i<j->xs[i]?=some y->p y=false)
 case atStart=>exact⟨0,by omega,rfl,qzL _ _,fun i y hi=>by omega⟩
 case round=>
  obtain⟨j,hj,rfl,hbel,hno⟩:=hrel;have HN:Hid (∀ i y,i<j->xs[i]?=some y->p y=false):=hno;clear hno
  by_cases hlt:j<xs.length
  ·obtain⟨b,o,rfl,-,hv0,hv1,hv2,sv,hv3,hsl⟩:=hrow j xs[j] (by simp[hlt])
   have hxj:Hid (xs[j]?=some xs[j]):=by show _=_;simp[hlt]
   generalize xs[j]=x at *;simp only[Nat.add_zero] at hv0;have u0:=qzA hbel hv0;have u1:=qzA hbel hv1;have u2:=qzA hbel hv2;have u3:=qzA hbel hv3;obtain⟨ad2,cap2,rfl,-,-,-,-⟩:=id hsl;clear hv0 hv1 hv2 hv3 hsl hrow;have hj1:(j:Int)<(xs.length:Int):=by omega
   have hj0:(0:Int)<=(j:Int):=by omega
   go_wp2_with fail;refine (hF x ad2 x.lz.length cap2 _ hbel).mono ?_;rintro e w1 ⟨rfl,hb⟩
   by_cases hp:p x=true
   ·go_wp2
    go_ret
    exact⟨xak (xb4 hxj.out hp HN.out).symm,xah hbel hb⟩
   ·have hp':p x=false:=by simpa using hp
    clear hp;go_wp2
    go_roundg (gk-1)
    case measure=>omega
    case rel=>
     refine⟨j+1,by omega,by go_num,xah hbel hb,fun i y hi hy=>?_⟩
     by_cases hij:i=j
     ·subst hij;rw[hxj.out] at hy;cases hy;exact hp'
     ·exact HN.out i y (by omega) hy
  ·obtain rfl:j=xs.length:=by omega
   go_wp2
   go_ret
   exact⟨xak (xbM fun i y hy=>HN.out i y (xae hy) hy).symm,hbel⟩
theorem xhO {P:Nat->Prop}(cap':Value)(p:QE->Bool)(xs:List QE)(v:Value)(w:World)(hh:IsRow xhq 6 0 P w v xs)
  (hF:∀ (x:QE) (a:Option Addr) (n c:Nat) (w':World),Below w.heap.size w w'->Calls Tryz.prog 97 #[EV x (.slice a n c),cap'] w' fun e w''=>e=.returned (.bool (p x))/\Below w'.heap.size w' w'') :
  Calls Tryz.prog 96 #[v,.func (.func 97) #[] #[cap']] w fun e w'=>e=.returned (.int .i64 (xbt p xs))/\Below w.heap.size w w':=by
 obtain⟨ad,cap,rfl,hl,hcap,-,hrow⟩:=hh;unfold maxLen at hcap;go_enter Tryz.func96,Tryz.ntmps96;go_wp2
 go_loopg [8] xs.length (fun g c wr=>∃ j:Nat,j+g=xs.length/\c=.int .i64 j/\Below w.heap.size w wr/\∀ i y,i<j->xs[i]?=some y->p y=false)
 case atStart=>exact⟨0,by omega,rfl,qzL _ _,fun i y hi=>by omega⟩
 case round=>
  obtain⟨j,hj,rfl,hbel,hno⟩:=hrel;have HN:Hid (∀ i y,i<j->xs[i]?=some y->p y=false):=hno;clear hno
  by_cases hlt:j<xs.length
  ·obtain⟨b,o,rfl,-,hv0,hv1,hv2,hv3,hv4,sv,hv5,hsl⟩:=hrow j xs[j] (by simp[hlt])
   have hxj:Hid (xs[j]?=some xs[j]):=by show _=_;simp[hlt]
   generalize xs[j]=x at *;simp only[Nat.add_zero] at hv0;have u0:=qzA hbel hv0;have u1:=qzA hbel hv1;have u2:=qzA hbel hv2;have u3:=qzA hbel hv3;have u4:=qzA hbel hv4;have u5:=qzA hbel hv5;obtain⟨ad2,cap2,rfl,-,-,-,-⟩:=id hsl;clear hv0 hv1 hv2 hv3 hv4 hv5 hsl hrow;have hj1:(j:Int)<(xs.length:Int):=by omega
   have hj0:(0:Int)<=(j:Int):=by omega
   go_wp2_with fail;refine (hF x ad2 x.lz.length cap2 _ hbel).mono ?_;rintro e w1 ⟨rfl,hb⟩
   by_cases hp:p x=true
   ·go_wp2
    go_ret
    exact⟨xak (xb4 hxj.out hp HN.out).symm,xah hbel hb⟩
   ·have hp':p x=false:=by simpa using hp
    clear hp;go_wp2
    go_roundg (gk-1)
    case measure=>omega
    case rel=>
     refine⟨j+1,by omega,by go_num,xah hbel hb,fun i y hi hy=>?_⟩
     by_cases hij:i=j
     ·subst hij;rw[hxj.out] at hy;cases hy;exact hp'
     ·exact HN.out i y (by omega) hy
  ·obtain rfl:j=xs.length:=by omega
   go_wp2
   go_ret
   exact⟨xak (xbM fun i y hy=>HN.out i y (xae hy) hy).symm,hbel⟩
theorem xdj (x:QL)(b:Nat)(k:Int)(w:World)(hc:w.cell? ⟨b,0,none⟩=some (.int .i64 k)):Calls Tryz.prog 86 #[LV x,.pointer (some ⟨b,0,none⟩)] w fun e w'=>e=.returned (.bool (x.cls == k))/\Below w.heap.size w w':=by
 have k:=fun y=>qzA (xaj w y) hc
 go_enter Tryz.func86,Tryz.ntmps86;go_wp2
 go_ret
 exact⟨xb7 rfl,xaj _ _⟩
theorem xhB (x:QL)(b:Nat)(k:Int)(w:World)(hc:w.cell? ⟨b,0,none⟩=some (.int .i64 k)):Calls Tryz.prog 98 #[LV x,.pointer (some ⟨b,0,none⟩)] w fun e w'=>e=.returned (.bool (x.cls == k))/\Below w.heap.size w w':=by
 have k:=fun y=>qzA (xaj w y) hc
 go_enter Tryz.func98,Tryz.ntmps98;go_wp2
 go_ret
 exact⟨xb7 rfl,xaj _ _⟩
theorem xis (x:QT)(a:Option Addr)(n c b:Nat)(s:QS)(w:World)(hc:SiteAt w b s):Calls Tryz.prog 65 #[TV x (.slice a n c),.pointer (some ⟨b,0,none⟩)] w fun e w'=>e=.returned (.bool (eqS x.site s))/\Below w.heap.size w w':=by
 have k0:=fun y=>qzA (xaj w y) hc.c0
 have k1:=fun y=>qzA (xaj w y) hc.c1
 have k2:=fun y=>qzA (xaj w y) hc.c2
 have he:=fun w=>xrt x.site s w
 go_enter Tryz.func65,Tryz.ntmps65;go_wp2
 go_ret
 exact⟨xb7 rfl,xaj _ _⟩
theorem xjS (x:QE)(a:Option Addr)(n c b:Nat)(s:QS)(w:World)(hc:SiteAt w b s):Calls Tryz.prog 97 #[EV x (.slice a n c),.pointer (some ⟨b,0,none⟩)] w fun e w'=>e=.returned (.bool (eqS x.site s))/\Below w.heap.size w w':=by
 have k0:=fun y=>qzA (xaj w y) hc.c0
 have k1:=fun y=>qzA (xaj w y) hc.c1
 have k2:=fun y=>qzA (xaj w y) hc.c2
 have he:=fun w=>xrt x.site s w
 go_enter Tryz.func97,Tryz.ntmps97;go_wp2
 go_ret
 exact⟨xb7 rfl,xaj _ _⟩
def xby (xs:List QC)(c:Int):Option QC:=if 0<=c then xs[c.toNat]? else none
theorem xfp {xs:List QC}{k:Nat}:xby xs (k:Int)=xs[k]?:=by simp[xby]
theorem xbn {xs:List QC}{c:Int}{x:QC}(h:xby xs c=some x):∃ k:Nat,c=(k:Int)/\xs[k]?=some x:=by
 unfold xby at h
 split at h
 ·exact⟨c.toNat,by omega,h⟩
 ·cases h
theorem xdo {xs:List QC}{c:Int}:xcN xs.length c=(xby xs c).isSome:=by
 unfold xcN xby
 by_cases h:0<=c
 ·rw[Bool.eq_iff_iff];simp[h]
 ·simp[h]
def upE {σ:Type}(vis:σ->Nat->QC->σ × Bool)(xs:List QC):Nat->Int->σ->σ
 | 0,_,s=>s
 | n+1,c,s=>match xby xs c with
  | none=>s
  | some x=>if (vis s c.toNat x).2 then upE vis xs n x.super (vis s c.toNat x).1 else (vis s c.toNat x).1
theorem xl3 {σ:Type}{P M:Nat->Prop}(vis:σ->Nat->QC->σ × Bool)(R:Nat->σ->World->Prop)(p1 p2 p3 p4:Value)(xs:List QC)(c:Int)(s0:σ)(cv hv:Value)(ep:Int)(w:World)(hh:xai P w cv xs)(hhv:∃ a n c,hv=.slice a n c)(hR:R 0 s0 w)(hM:∀ b,M b->b<w.heap.size)
  (hX:∀ j s w',R j s w'->xai P w' cv xs) (hL:∀ j s w' w'',R j s w'->Below w'.heap.size w' w''->R j s w'')
  (hF:∀ (j:Nat) s (k:Nat) x w',j<xs.length+1->R j s w'->xs[k]?=some x->Calls Tryz.prog 74 #[.int .i64 k,p1,p2,p3,p4] w' fun e w''=>e=.returned (.bool (vis s k x).2)/\R (j+1) (vis s k x).1 w''/\Keeps (fun b=>¬ M b) w' w''/\w'.heap.size<=w''.heap.size) :
  Calls Tryz.prog 73 #[WV cv hv ep,.int .i64 c,.func (.func 74) #[] #[p1,p2,p3,p4]] w fun e w'=>e=.returned (.tuple #[])/\∃ j,R j (upE vis xs (xs.length+1) c s0) w':=by
 obtain⟨ad,cap,rfl,hl,hcap,hby,hrow⟩:=id hh;obtain⟨ah,nh,ch,rfl⟩:∃ a n c,hv=.slice a n c:=hhv;unfold maxLen at hcap;go_enter Tryz.func73,Tryz.ntmps73;go_wp2;have hb0:(w.alloc (Obj.cells #[.slice ad xs.length cap,.slice ah nh ch,.int .i64 ep] 25)).cell? ⟨w.heap.size,0,none⟩=some (.slice ad xs.length cap):=by simp
 have hb1:(w.alloc (Obj.cells #[.slice ad xs.length cap,.slice ah nh ch,.int .i64 ep] 25)).cell? ⟨w.heap.size,1,none⟩=some (.slice ah nh ch):=by simp
 have hb2:(w.alloc (Obj.cells #[.slice ad xs.length cap,.slice ah nh ch,.int .i64 ep] 25)).cell? ⟨w.heap.size,2,none⟩=some (.int .i64 ep):=by simp
 have hMw:¬ M w.heap.size:=fun h=>by have:=hM _ h;omega
 have hRa:=hL 0 s0 w _ hR (xaj w (Obj.cells #[.slice ad xs.length cap,.slice ah nh ch,.int .i64 ep] 25));clear hR hrow hh
 go_loopg [1,10] (xs.length+1) (fun g c' i wr=>∃ (j:Nat) (cc:Int) (s:σ),j+g=xs.length+1/\i=.int .i64 j/\c'=.int .i64 cc/\R j s wr/\upE vis xs (xs.length+1) c s0=upE vis xs g cc s/\wr.cell? ⟨w.heap.size,0,none⟩=some (.slice ad xs.length cap)/\wr.cell? ⟨w.heap.size,1,none⟩=some (.slice ah nh ch)/\wr.cell? ⟨w.heap.size,2,none⟩=some (.int .i64 ep))
 case atStart=>exact⟨0,c,s0,by omega,rfl,rfl,hRa,rfl,hb0,hb1,hb2⟩
 case round=>
  obtain⟨j,cc,s,hj,rfl,rfl,hRs,hE,c0,c1,c2⟩:=hrel;have HE:Hid (upE vis xs (xs.length+1) c s0=upE vis xs gk cc s):=hE;clear hE hb0 hb1 hb2 hRa
  by_cases hlt:j<xs.length+1
  ·obtain⟨g',rfl⟩:∃ g',gk=g'+1:=⟨gk-1,by omega⟩
   have hj1:(j:Int)<(xs.length:Int)+1:=by omega
   cases hx:xby xs cc with
   | none=>
    have hh:xcN xs.length cc=false:=by rw[xdo,hx];rfl
    have HX:Hid (xby xs cc=none):=hx;clear hx;go_wp2_with fail;refine (xgw _ _ _ _ _ _ _ _ _).mono ?_;rintro e w1 ⟨rfl,hb⟩;rw[hh];go_wp2;refine qzK (v:=.tuple #[]) (by simp[results,Tryz.results73,go_sem]) rfl ⟨rfl,j,?_⟩
    rw[HE.out];simp only[upE,HX.out]
    exact hL _ _ _ _ hRs hb
   | some x=>
    have hh:xcN xs.length cc=true:=by rw[xdo,hx];rfl
    obtain⟨k,rfl,hxk⟩:=xbn hx;have HX:Hid (xs[k]?=some x):=hxk;have HC:Hid (xby xs (k:Int)=some x):=hx;have hk:=xae hxk;clear hx hxk;have hk0:(0:Int)<=(k:Int):=by omega
    have hk1:(k:Int)<(xs.length:Int):=by omega
    go_wp2_with fail;refine (xgw _ _ _ _ _ _ _ _ _).mono ?_;rintro e w1 ⟨rfl,hb⟩;rw[hh];replace hRs:=hL _ _ _ _ hRs hb;replace c0:=qzA hb c0;replace c1:=qzA hb c1;replace c2:=qzA hb c2;clear hb hh;go_wp2_with fail;refine (hF j s k x w1 hlt hRs HX.out).mono ?_;rintro e w2 ⟨rfl,hR2,hK2,-⟩;replace c0:=hK2 _ _ _ hMw c0;replace c1:=hK2 _ _ _ hMw c1;replace c2:=hK2 _ _ _ hMw c2
    cases hv2:(vis s k x).2
    ·go_wp2;refine qzK (v:=.tuple #[]) (by simp[results,Tryz.results73,go_sem]) rfl ⟨rfl,j+1,?_⟩
     rw[HE.out];simp only[upE,HC.out,Int.toNat_natCast,hv2]
     exact hR2
    ·obtain⟨ad',cap',e',-,-,-,hrow⟩:=hX _ _ _ hR2;simp only[Value.slice.injEq] at e';obtain⟨rfl,-,rfl⟩:=e';obtain⟨b,o,rfl,-,-,hv1,-⟩:=hrow k x HX.out;clear hrow;go_wp2
     go_roundg g'
     case measure=>omega
     case rel=>
      refine⟨j+1,x.super,(vis s k x).1,by omega,by go_num,rfl,hR2,?_,c0,c1,c2⟩
      rw[HE.out];simp only[upE,HC.out,Int.toNat_natCast,hv2,if_true]
  ·obtain rfl:gk=0:=by omega
   go_wp2
   go_end0
   refine⟨rfl,j,?_⟩;rw[HE.out]
   exact hRs
theorem xkL (w:World)(b o:Nat)(v:Value):Below b w (w.setCell ⟨b,o,none⟩ v):=(qzL b w).setCell (qzC b) _
def xd6 (s:Int)(_:Nat)(x:QC):Int × Bool:=(s+x.slots,true)
def xaP (xs:List QC)(c:Int):Int:=upE xd6 xs (xs.length+1) c 0
def xbL (xs:List QC):Prop:=∀ (i:Nat) x,xs[i]?=some x->0<=x.slots/\x.slots<=6
theorem xcv {xs:List QC}(ho:xbL xs):∀ (n:Nat) (c s:Int),0<=s->s<=upE xd6 xs n c s/\upE xd6 xs n c s<=s+6*n
 | 0,c,s,h=>by simp[upE]
 | n+1,c,s,h=>by
  unfold upE
  cases hx:xby xs c with
  | none=>simp;omega
  | some x=>
   obtain⟨k,rfl,hk⟩:=xbn hx;obtain⟨h1,h2⟩:=ho k x hk;obtain⟨h3,h4⟩:=xcv ho n x.super (s+x.slots) (by omega)
   simp only[xd6,if_true] at h3 h4 ⊢
   omega
def xfq (name:ByteArray)(s:Int × Int)(k:Nat)(x:QC):(Int × Int) × Bool:=((if 0<=xcu x.mz name then (k:Int) else s.1,xcu x.mz name),decide (xcu x.mz name<0))
def xaw (xs:List QC)(c:Int)(name:ByteArray):Int × Int:=upE (xfq name) xs (xs.length+1) c (-1,-1)
theorem xko {P:Nat->Prop}(n cap:Nat)(name:ByteArray)(s:Int × Int)(k:Nat)(x:QC)(b o bw bn bm bf lo:Nat)(mv:Value)(w:World)(hf:w.heap[bf]?=some (.cells #[.int .i64 s.1] 3 (0,0)))(hmm:w.heap[bm]?=some (.cells #[.int .i64 s.2] 3 (0,0)))(hw:w.cell? ⟨bw,0,none⟩=some (.slice (some ⟨b,o,none⟩) n cap))(hn:w.cell? ⟨bn,0,none⟩=some (.string name))
  (hk:k<n) (hv:w.cell? ⟨b,o+k*4+3,none⟩=some mv) (hM:xbd P w mv x.mz) (hne:bm≠bf) (h1:bm≠bw) (h2:bm≠bn) (h3:bm≠b) (hlm:lo<=bm) (hlf:lo<=bf) :
  Calls Tryz.prog 74 #[.int .i64 k,.pointer (some ⟨bw,0,none⟩),.pointer (some ⟨bn,0,none⟩),.pointer (some ⟨bm,0,none⟩),.pointer (some ⟨bf,0,none⟩)] w fun e w''=>e=.returned (.bool (xfq name s k x).2)/\w''.heap[bf]?=some (.cells #[.int .i64 (xfq name s k x).1.1] 3 (0,0))/\w''.heap[bm]?=some (.cells #[.int .i64 (xfq name s k x).1.2] 3 (0,0))/\Keeps (fun b=>b≠bm/\b≠bf) w w''/\Below lo w w'':=by
 obtain⟨ad2,cap2,rfl,-,-,-,-⟩:=id hM;have hk0:(0:Int)<=(k:Int):=by omega
 have hk1:(k:Int)<(n:Int):=by omega
 have cm:=cell_of_one hmm;have fm:=free_of_one hmm;go_enter Tryz.func74,Tryz.ntmps74;go_wp2;have hS0:w.drew.cell? ⟨bw,0,none⟩=some (.slice (some ⟨b,o,none⟩) n cap)/\w.drew.cell? ⟨b,o+k*4+3,none⟩=some (.slice ad2 x.mz.length cap2)/\w.drew.cell? ⟨bn,0,none⟩=some (.string name):=⟨hw,hv,hn⟩;have hMd:=hM.later xbi (qzL _ _).drew;have hmd:w.drew.heap[bm]?=some (.cells #[.int .i64 s.2] 3 (0,0)):=hmm;have hfd:w.drew.heap[bf]?=some (.cells #[.int .i64 s.1] 3 (0,0)):=hf;clear hw hv hn hM cm fm
 go_region_held3 (fun w'=>w'.cell? ⟨bw,0,none⟩=some (.slice (some ⟨b,o,none⟩) n cap)/\w'.cell? ⟨b,o+k*4+3,none⟩=some (.slice ad2 x.mz.length cap2)/\w'.cell? ⟨bn,0,none⟩=some (.string name))
  (first | exact hS0 | exact hY | exact⟨(qzI _ _ _ _ h1).trans hY.1,(qzI _ _ _ _ h3).trans hY.2.1,(qzI _ _ _ _ h2).trans hY.2.2⟩)
  (first | (go_at_call 75;refine (xg8 x.mz _ name _ hMd).mono ?_;rintro e w1 ⟨rfl,hb⟩;have hY:w1.cell? ⟨bw,0,none⟩=some (.slice (some ⟨b,o,none⟩) n cap)/\w1.cell? ⟨b,o+k*4+3,none⟩=some (.slice ad2 x.mz.length cap2)/\w1.cell? ⟨bn,0,none⟩=some (.string name):=⟨qzA hb hS0.1,qzA hb hS0.2.1,qzA hb hS0.2.2⟩;have hm1:w1.heap[bm]?=some (.cells #[.int .i64 s.2] 3 (0,0)):=(by rw[hb.block _ (xaf hmd)];exact hmd);have hf1:w1.heap[bf]?=some (.cells #[.int .i64 s.1] 3 (0,0)):=(by rw[hb.block _ (xaf hfd)];exact hfd);have cm1:=cell_of_one hm1;have fm1:=free_of_one hm1))
 have hm2:=one_setCell (u:=.int .i64 (xcu x.mz name)) hm1;have hf2:(w1.setCell ⟨bm,0,none⟩ (.int .i64 (xcu x.mz name))).heap[bf]?=some (.cells #[.int .i64 s.1] 3 (0,0)):=by rw[xab (by omega)];exact hf1
 have hB2:Below lo w (w1.setCell ⟨bm,0,none⟩ (.int .i64 (xcu x.mz name))):=((qzL _ _).drew.trans (hb.mono (qzD hlm (Nat.le_of_lt (xaf hmd))))).setCell hlm _;have hK2:Keeps (fun b=>b≠bm/\b≠bf) w (w1.setCell ⟨bm,0,none⟩ (.int .i64 (xcu x.mz name))):=xaq (Keeps.of_below (xah (qzL _ _).drew hb)) (fun h=>h.1 rfl) _
 have c3:=cell_of_one hm2;have c4:=cell_of_one hf2;have c5:=free_of_one hf2;clear hS0 hMd hmd hfd hb hY hm1 hf1 cm1 fm1 hmm hf;generalize w1.setCell ⟨bm,0,none⟩ (.int .i64 (xcu x.mz name))=w2 at *
 by_cases hp:0<=xcu x.mz name
 ·have c6:(w2.setCell ⟨bf,0,none⟩ (.int .i64 (k:Int))).cell? ⟨bm,0,none⟩=some (.int .i64 (xcu x.mz name)):=(qzI _ _ _ _ (by simp;omega)).trans c3
  go_wp2
  go_ret
  refine⟨xb7 (by simp[xfq]),?_,?_,?_,?_⟩
  ·have:=one_setCell (u:=.int .i64 (k:Int)) hf2
   simpa [xfq,hp] using this
  ·rw[xab (by omega)];exact hm2
  ·exact xaq hK2 (fun h=>h.2 rfl) _
  ·exact hB2.setCell hlf _
 ·have hp':xcu x.mz name<0:=by omega
  go_wp2
  go_ret
  refine⟨xb7 (by simp[xfq];exact hp'),?_,hm2,hK2,hB2⟩
  simp only[xfq];rw[if_neg (by omega)]
  exact hf2
def FiR {P:Nat->Prop}(w0:World)(cv:Value)(xs:List QC)(name:ByteArray)(_:Nat)(s:Int × Int)(w':World):Prop:=
 Below w0.heap.size w0 w'/\xai P w' cv xs/\w'.heap[w0.heap.size+1+1]?=some (.cells #[.int .i64 s.1] 3 (0,0))/\w'.heap[w0.heap.size+1+1+1]?=some (.cells #[.int .i64 s.2] 3 (0,0))/\w'.cell? ⟨w0.heap.size,0,none⟩=some cv/\w'.cell? ⟨w0.heap.size+1,0,none⟩=some (.string name)
theorem xeI {P:Nat->Prop}(X:QW)(c:Int)(name:ByteArray)(cv hv:Value)(w:World)(hh:xai P w cv X.cz)(hH:xaC P w hv X.heap):Calls Tryz.prog 59 #[WV cv hv X.ez,.int .i64 c,.string name] w fun e w'=>e=.returned (.tuple #[.int .i64 (xaw X.cz c name).1,.int .i64 (xaw X.cz c name).2])/\Below w.heap.size w w':=by
 have hm:=hmf;obtain⟨ad,cap,rfl,hl,hcap,hby,hrow⟩:=id hh;obtain⟨ah,ch,rfl,-,-,-,-⟩:=id hH;go_enter Tryz.func59,Tryz.ntmps59;go_wp2_with fail;have hW:=(xfv w (Obj.cells #[Value.slice ad X.cz.length cap,Value.slice ah X.heap.length ch,Value.int .i64 X.ez] 25) (Obj.cells #[Value.string name] 9) (Obj.cells #[Value.int .i64 (-1)] 3)).alloc (by simp;omega) (Obj.cells #[Value.int .i64 (-1)] 3)
 refine (xl3 (P:=P) (M:=fun b=>b=w.heap.size+1+1+1\/b=w.heap.size+1+1) (xfq name) (FiR (P:=P) w (.slice ad X.cz.length cap) X.cz name) _ _ _ _ X.cz c (-1,-1) _ _ _ _ (hh.later xaz hW) ⟨_,_,_,rfl⟩ ?_ ?_ ?_ ?_ ?_).mono ?_
 ·refine⟨hW,hh.later xaz hW,?_,?_,?_,?_⟩
  ·rw[(xaj _ _).block _ (by simp)]
   have:=qzJ ((w.alloc (Obj.cells #[Value.slice ad X.cz.length cap,Value.slice ah X.heap.length ch,Value.int .i64 X.ez] 25)).alloc (Obj.cells #[Value.string name] 9)) (Obj.cells #[Value.int .i64 (-1)] 3)
   simpa using this
  ·have:=qzJ (((w.alloc (Obj.cells #[Value.slice ad X.cz.length cap,Value.slice ah X.heap.length ch,Value.int .i64 X.ez] 25)).alloc (Obj.cells #[Value.string name] 9)).alloc (Obj.cells #[Value.int .i64 (-1)] 3)) (Obj.cells #[Value.int .i64 (-1)] 3)
   simpa using this
  ·exact qzA (xfv _ _ _ _) (by rw[xaa _ _ _ _ rfl];rfl)
  ·exact qzA (xca _ _ _) (by rw[xaa _ _ _ _ (by simp)];rfl)
 ·rintro b (rfl | rfl)<;>simp
 ·exact fun j s w' h=>h.2.1
 ·rintro j s w' w'' ⟨h1,h2,h3,h4,h5,h6⟩ hb
  exact⟨xah h1 hb,h2.later xaz hb,by rw[hb.block _ (xaf h3)];exact h3,by rw[hb.block _ (xaf h4)];exact h4,qzA hb h5,qzA hb h6⟩
 ·rintro j s k x w' hj ⟨h1,h2,h3,h4,h5,h6⟩ hx;have hk:=xae hx;obtain⟨b,o,rfl,-,-,-,-,-,mv,hv,hM⟩:=hrow k x hx;have hbl:=World.block_lt_of_cell? _ _ hv
  simp at hbl
  refine (xko X.cz.length cap name s k x b o w.heap.size (w.heap.size+1) (w.heap.size+1+1+1) (w.heap.size+1+1) w.heap.size mv w' h3 h4 h5 h6 hk (qzA h1 hv) (hM.later xbi h1) (by omega) (by omega) (by omega) (by omega) (by omega) (by omega)).mono ?_
  rintro e w'' ⟨rfl,k1,k2,k3,k4⟩;refine⟨rfl,⟨h1.trans k4,hh.later xaz (h1.trans k4),k1,k2,k3 _ _ _ (by omega) h5,k3 _ _ _ (by omega) h6⟩,k3.mono fun b hb=>by omega,k4.size⟩
 ·rintro e w1 ⟨rfl,j,h1,h2,h3,h4,h5⟩;have c1:=cell_of_one h3;have c2:=cell_of_one h4;go_wp2
  go_quiet (fail)
  go_wp2;refine qzK (v:=.tuple #[.int .i64 (xaw X.cz c name).1,.int .i64 (xaw X.cz c name).2]) ?_ rfl ⟨rfl,?_⟩
  ·simp[results,Tryz.results59,go_sem,xaw]
  ·first | exact h1 | exact h1.drew | exact below_drewN h1 _
def okB (s:ByteArray):Bool:=decide (∀ j:Fin s.size,33<=(s[j.1]'j.2).toNat/\(s[j.1]'j.2).toNat<=126)
def xbf (s:ByteArray):Bool:=decide (1<=s.size/\s.size<=12) && okB s
theorem xfK {s:ByteArray}{j:Nat}(hj:j<s.size)(h:¬ (33<=s[j].toNat/\s[j].toNat<=126)):okB s=false:=by
 unfold okB;simp only[decide_eq_false_iff_not]
 exact fun k=>h (k ⟨j,hj⟩)
theorem xib {s:ByteArray}(h:∀ j (hj:j<s.size),33<=s[j].toNat/\s[j].toNat<=126):okB s=true:=by
 unfold okB;simp only[decide_eq_true_eq]
 exact fun j=>h j.1 j.2
theorem xba (w:World)(o:Obj)(n:Nat)(hn:w.heap.size=n):(w.alloc o).heap[n]?=some o:=by subst hn;exact qzJ w o
theorem IsRow.get {α:Type}{E:Lay α}{sz bytes:Nat}{P:Nat->Prop}{w:World}{v:Value}{xs:List α}(h:IsRow E sz bytes P w v xs):∃ ad cap,v=.slice ad xs.length cap:=by
 obtain⟨ad,cap,rfl,-⟩:=h;exact⟨_,_,rfl⟩
end Go.Proofs.YtapbeiccodnniaaGreat
