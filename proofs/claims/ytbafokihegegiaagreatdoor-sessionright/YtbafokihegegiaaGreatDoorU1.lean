/- A part. -/
import Derived.Test.YtbafokihegegiaaGreatDoorU0
import Derived.Deep.RegionLawGrows
import Derived.Deep.AppendLies
namespace Go.Proofs.YtbafokihegegiaaGreatDoor
open Go.ChangeShapes Go.WideShapes Go.ChangeAt Go.RowKit
set_option linter.unusedSimpArgs false
set_option linter.unusedVariables false
set_option maxHeartbeats 8000000
abbrev qN:Value:=.slice none 0 0
abbrev qY(w w':World):Prop:=Below w.heap.size w w'
abbrev qU(g h:Nat)(X:QW):Obj:=.cells #[.slice (some ⟨g,0,none⟩) X.cz.length X.cz.length,.slice (some ⟨h,0,none⟩) X.heap.length X.heap.length,.int .i64 X.ez] 26
abbrev qR:Obj:=.cells #[.int .i64 0,.int .i64 0,.int .i64 0,.int .i64 0] 43
abbrev qH(v:QV):Obj:=.cells #[.int .i64 v.k,.int .i64 v.n] 41
abbrev qE(x:QI):Obj:=.cells #[.int .i64 x.op,.int .i64 x.a,.int .i64 x.b,.int .i64 x.c,.string x.name] 69
abbrev qD(m:QM)(a:Option Addr)(b:Nat):Obj:=.cells #[.string m.name,.int .i64 m.args,.int .i64 m.temps,.int .i64 m.prim,.slice a m.code.length b] 51
abbrev qA(a:Option Addr)(b:Nat)(c:Option Addr)(d:Nat)(X:QW):Obj:=.cells #[.slice a X.cz.length b,.slice c X.heap.length d,.int .i64 X.ez] 26
abbrev qK(v:QV)(n:ByteArray)(a:Option Addr)(l:List QV)(c:Nat):Obj:=.cells #[.int .i64 v.k,.int .i64 v.n,.string n,.slice a l.length c] 54
abbrev qQ:Obj:=.cells #[.int .i64 0,.int .i64 0] 41
abbrev qO:Obj:=.cells #[.slice none 0 0,.slice none 0 0,.int .i64 0] 26
abbrev qM:Obj:=.cells #[.slice none 0 0,.slice none 0 0,.int .i64 0,.slice none 0 0,.slice none 0 0,.slice none 0 0] 31
abbrev qI:Obj:=.cells #[.int .i64 0,.string ⟨#[]⟩,.int .i64 0,.int .i64 0,.slice none 0 0] 187
abbrev qV(a:Option Addr)(b:Nat)(c:Option Addr)(d:Nat)(X:QW):Value:=WV (.slice a X.cz.length b) (.slice c X.heap.length d) X.ez
structure QS where
 cls:Int
 name:ByteArray
 at':Int
structure QL where
 cls:Int
 found:Int
structure QT where
 site:QS
 lz:List QL
structure QE where
 site:QS
 ez:Int
 many:Bool
 lz:List QL
def FG:CT QL:=λ_ _ f x=>f 0=some (J x.cls)/\f 1=some (J x.found)
abbrev Fw:=IsRow FG 2 0
def Mh:CT QT:=λP w f x=>f 0=some (J x.site.cls)/\f 1=some (qZ x.site.name)/\f 2=some (J x.site.at')/\∃v,f 3=some v/\Fw P w v x.lz
abbrev Ep:=IsRow Mh 4 0
def Ln:CT QE:=λP w f x=>f 0=some (J x.site.cls)/\f 1=some (qZ x.site.name)/\f 2=some (J x.site.at')/\f 3=some (J x.ez)/\f 4=some (.bool x.many)/\∃v,f 5=some v/\Fw P w v x.lz
abbrev Fj:=IsRow Ln 6 0
theorem Db:Good FG 2 where
 move h _ _ hf:=⟨hf 0 (by omega) _ h.1,hf 1 (by omega) _ h.2⟩
 there h k hk:=by
  obtain⟨a,b⟩:=h
  match k,hk with
  | 0,_=>exact⟨_,a,rfl⟩
  | 1,_=>exact⟨_,b,rfl⟩
 pos:=by omega
theorem xbD:Good Mh 4 where
 move h hl hk hf:=by
  obtain⟨b,a,e,v,c,d⟩:=h;exact⟨hf 0 (by omega) _ b,hf 1 (by omega) _ a,hf 2 (by omega) _ e,v,hf 3 (by omega) _ c,d.keep Db hk hl⟩
 there h k hk:=by
  obtain⟨b,a,e,v,c,d⟩:=h
  match k,hk with
  | 0,_=>exact⟨_,b,rfl⟩
  | 1,_=>exact⟨_,a,rfl⟩
  | 2,_=>exact⟨_,e,rfl⟩
  | 3,_=>exact⟨_,c,Mx d⟩
 pos:=by omega
theorem Dc:Good Ln 6 where
 move h hl hk hf:=by
  obtain⟨c,a,f,g,b,v,e,d⟩:=h;exact⟨hf 0 (by omega) _ c,hf 1 (by omega) _ a,hf 2 (by omega) _ f,hf 3 (by omega) _ g,hf 4 (by omega) _ b,v,hf 5 (by omega) _ e,d.keep Db hk hl⟩
 there h k hk:=by
  obtain⟨c,a,f,g,b,v,e,d⟩:=h
  match k,hk with
  | 0,_=>exact⟨_,c,rfl⟩
  | 1,_=>exact⟨_,a,rfl⟩
  | 2,_=>exact⟨_,f,rfl⟩
  | 3,_=>exact⟨_,g,rfl⟩
  | 4,_=>exact⟨_,b,rfl⟩
  | 5,_=>exact⟨_,e,Mx d⟩
 pos:=by omega
abbrev SV (x:QS):Value:=.agg #[J x.cls,qZ x.name,J x.at']
abbrev LV (x:QL):Value:=.agg #[J x.cls,J x.found]
structure SiteAt (w:qW)(b:Nat)(x:QS):Prop where
 c0:w.cell? (O b 0)=some (J x.cls)
 c1:w.cell? (O b 1)=some (qZ x.name)
 c2:w.cell? (O b 2)=some (J x.at')
theorem SiteAt.later {w w':qW}{b:Nat}{x:QS}(h:SiteAt w b x)(a:qY w w'):SiteAt w' b x:=⟨Bf a h.c0,Bf a h.c1,Bf a h.c2⟩
theorem Lf (w:qW)(x:QS)(t:TypeId):SiteAt (w.alloc (qC #[J x.cls,qZ x.name,J x.at'] t)) w.heap.size x:=⟨by rw[Bp _ _ _ _ rfl];rfl,by rw[Bp _ _ _ _ rfl];rfl,by rw[Bp _ _ _ _ rfl];rfl⟩
def Cw (a b:QS):Bool:=a.cls == b.cls && (CD a.name b.name && a.at' == b.at')
theorem eqlS (x y:QS)(w:qW):(binOp .eql 105 (SV x) (SV y)).run Tryz.prog w=.ok (.bool (Cw x y)) w:=by
 have u3:=Tryz.underlying3;have a3:=Tryz.isAgg3;have z3:=Tryz.sizeOf3;have u9:=Tryz.underlying9;have a9:=Tryz.isAgg9;have z9:=Tryz.sizeOf9;have b:Tryz.prog.underlying 105=some (.struct (Tryz.prog.fieldsOf 105)):=by kernel_rfl
 have a:Tryz.prog.stoodInHeld 105=false:=by kernel_rfl
 rw[run_eql_struct,show (10000:Nat)=9999+1 from rfl,run_equalIn_struct w 9999 105 _ _ b a];simp only[Program.fieldsOf,Tryz.underlying105];go_simp;unfold Cw CD;by_cases h1:x.cls=y.cls<;>by_cases h2:x.name.toList=y.name.toList<;>by_cases h3:x.at'=y.at'<;>simp[h1,h2,h3]
theorem neqS (x y:QS)(w:qW):(binOp .neq 105 (SV x) (SV y)).run Tryz.prog w=.ok (.bool (!Cw x y)) w:=by
 have u3:=Tryz.underlying3;have a3:=Tryz.isAgg3;have z3:=Tryz.sizeOf3;have u9:=Tryz.underlying9;have a9:=Tryz.isAgg9;have z9:=Tryz.sizeOf9;have b:Tryz.prog.underlying 105=some (.struct (Tryz.prog.fieldsOf 105)):=by kernel_rfl
 have a:Tryz.prog.stoodInHeld 105=false:=by kernel_rfl
 rw[run_neq_struct,show (10000:Nat)=9999+1 from rfl,run_equalIn_struct w 9999 105 _ _ b a];simp only[Program.fieldsOf,Tryz.underlying105];go_simp;unfold Cw CD;by_cases h1:x.cls=y.cls<;>by_cases h2:x.name.toList=y.name.toList<;>by_cases h3:x.at'=y.at'<;>simp[h1,h2,h3]
theorem xm9 (a b:ByteArray):CD a b=true ↔ a=b:=by
 unfold CD;rw[ByteArray.toList_eq,ByteArray.toList_eq];obtain⟨⟨x⟩⟩:=a;obtain⟨⟨y⟩⟩:=b;simp
theorem xiB:(Tryz.prog.info? 147).map (λi=>(i.zero,i.size,i.bytes))=some (some (.agg #[J 0,J 0]),2,16):=by kernel_rfl
theorem xl2:(Tryz.prog.info? 147).map (·.size)=some 2:=by kernel_rfl
theorem xgb {T e:TypeId}{zs:Array Value}{sz by':Nat}(j:Tryz.prog.underlying T=some (.slice e))(f:(Tryz.prog.info? e).map (λi=>(i.zero,i.size,i.bytes))=some (some (.agg zs),sz,by'))(d:0<by')(n:Nat)(l:n*by'<=281474976710656)(h:(Value.agg zs).cells=zs)(w:qW):(Instr.makeSlice T (J (n:Int)) (J (n:Int))).run Tryz.prog w=.ok (qG w.heap.size n n) (w.alloc (.cells (madeCells zs (n*sz)) e)):=by
 obtain⟨i0,g,b,c,a⟩:=Gb f;have k:n<=n*by':=Nat.le_mul_of_pos_right _ d
 have:=run_make (P:=Tryz.prog) w T e i0 _ j g b .i64 .i64 n n (by omega) (by omega) (by rw[a];rw[Nat.mul_comm] at *;omega) (by omega);rw[this,c,h];simp
theorem xii (n:Nat)(a:n*16<=281474976710656):Lz 106 147 #[J 0,J 0] 2 n:=λw=>xgb Tryz.underlying106 xiB (by omega) n a rfl w
theorem xiz {P:Nat->Prop}(xs:List QL)(v:Value)(w:qW)(t:Fw P w v xs)(f:xs.length*16<=281474976710656):Calls Tryz.prog 51 #[v] w λe w'=>∃g,e=.returned (qG g xs.length xs.length)/\OwnSt FG 2 147 w' g xs xs.length/\w.heap.size<=g/\qY w w':=by
 obtain⟨ad,cap,rfl,u,k,-,d⟩:=t;have o:=xii xs.length f;obtain⟨cs,b,c⟩:=d.cells Db
 obtain⟨w1,l,m,n⟩:=xcD (P:=Tryz.prog) (w.alloc (.cells (madeCells #[J 0,J 0] (xs.length*2)) 147)) 106 106 3 147 2 w.heap.size xs.length xs.length ad cap (madeCells #[J 0,J 0] (xs.length*2)) 147 cs Tryz.underlying106 xl2 (BH w _) b.1
  (λj v r=>by obtain⟨a,e,h⟩:=c j v r;exact⟨a,e,Bf (Bg _ _) h⟩) (size_madeCells _ _) (b.all Db)
 have q:=n w.heap.size w (Bg _ _) (Bq _)
 have p:Hid (OwnSt FG 2 147 w1 w.heap.size xs xs.length):=by
  refine⟨⟨cs.toArray,m,by simpa using b.1⟩,λi x y s=>?_⟩;have:=b.2 i x s;exact⟨by show w1.cell? _=_;rw[Bn m];simpa using this.1,by show w1.cell? _=_;rw[Bn m];simpa using this.2⟩
 clear m n d b c;go_enter Tryz.func51,Tryz.ntmps51;go_wp2;go_ret;exact⟨_,rfl,p.out,Bq _,q⟩
theorem xi0 {P:Nat->Prop}(xs:List QL)(v:Value)(w:qW)(t:Fw P w v xs)(f:xs.length*16<=281474976710656):Calls Tryz.prog 50 #[v] w λe w'=>∃g,e=.returned (qG g xs.length xs.length)/\OwnSt FG 2 147 w' g xs xs.length/\w.heap.size<=g/\qY w w':=by
 obtain⟨ad,cap,rfl,u,k,-,d⟩:=t;have o:=xii xs.length f;obtain⟨cs,b,c⟩:=d.cells Db
 obtain⟨w1,l,m,n⟩:=xcD (P:=Tryz.prog) (w.alloc (.cells (madeCells #[J 0,J 0] (xs.length*2)) 147)) 106 106 3 147 2 w.heap.size xs.length xs.length ad cap (madeCells #[J 0,J 0] (xs.length*2)) 147 cs Tryz.underlying106 xl2 (BH w _) b.1
  (λj v r=>by obtain⟨a,e,h⟩:=c j v r;exact⟨a,e,Bf (Bg _ _) h⟩) (size_madeCells _ _) (b.all Db)
 have q:=n w.heap.size w (Bg _ _) (Bq _)
 have p:Hid (OwnSt FG 2 147 w1 w.heap.size xs xs.length):=by
  refine⟨⟨cs.toArray,m,by simpa using b.1⟩,λi x y s=>?_⟩;have:=b.2 i x s;exact⟨by show w1.cell? _=_;rw[Bn m];simpa using this.1,by show w1.cell? _=_;rw[Bn m];simpa using this.2⟩
 clear m n d b c;go_enter Tryz.func50,Tryz.ntmps50;go_wp2;go_ret;exact⟨_,rfl,p.out,Bq _,q⟩
abbrev TV (x:QT)(lv:Value):Value:=.agg #[J x.site.cls,qZ x.site.name,J x.site.at',lv]
abbrev EV (x:QE)(lv:Value):Value:=.agg #[J x.site.cls,qZ x.site.name,J x.site.at',J x.ez,.bool x.many,lv]
theorem xeL {P:Nat->Prop}(cap':Value)(p:QL->Bool)(xs:List QL)(v:Value)(w:qW)(C:IsRow FG 2 0 P w v xs)
  (u:∀(x:QL) (w':qW),qY w w'->Calls Tryz.prog 237 #[LV x,cap'] w' λe w''=>e=.returned (.bool (p x))/\qY w' w'') :
  Calls Tryz.prog 236 #[v,.func (.func 237) #[] #[cap']] w λe w'=>e=.returned (J (CB p xs))/\qY w w':=by
 obtain⟨ad,cap,rfl,D,k,-,d⟩:=C;unfold maxLen at k;go_enter Tryz.func236,Tryz.ntmps236;go_wp2
 go_loopg [8] xs.length (λg c wr=>∃j:Nat,j+g=xs.length/\c=J j/\qY w wr/\∀i y,i<j->xs[i]?=some y->p y=false)
 case atStart=>exact⟨0,by omega,rfl,Br _ _,λi y B=>by omega⟩
 case round=>
  obtain⟨j,F,rfl,a,h⟩:=hrel;have q:Hid (∀i y,i<j->xs[i]?=some y->p y=false):=h;clear h;by_cases hlt:j<xs.length
  ·obtain⟨b,o,rfl,-,f,l⟩:=d j xs[j] (by simp[hlt]);have n:Hid (xs[j]?=some xs[j]):=by show _=_;simp[hlt]
   generalize xs[j]=x at *;simp only[Nat.add_zero] at f;have u0:=Bf a f;have u1:=Bf a l;clear f l d;have t:(j:Int)<(xs.length:Int):=by omega
   have z:(0:Int)<=(j:Int):=by omega
   go_wp2_with fail;refine (u x _ a).mono ?_;rintro e w1 ⟨rfl,s⟩;by_cases hp:p x=true
   ·go_wp2;go_ret;exact⟨BT (Kq n.out hp q.out).symm,Bh a s⟩
   have r:p x=false:=by simpa using hp
   clear hp;go_wp2;go_roundg (gk-1)
   case measure=>omega
   case rel=>
    refine⟨j+1,by omega,by go_num,Bh a s,λi y B m=>?_⟩;by_cases hij:i=j
    ·subst hij;rw[n.out] at m;cases m;exact r
    exact q.out i y (by omega) m
  obtain rfl:j=xs.length:=by omega
  go_wp2;go_ret;exact⟨BT (Lq λi y m=>q.out i y (Bz m) m).symm,a⟩
theorem xkp {P:Nat->Prop}(cap':Value)(p:QL->Bool)(xs:List QL)(v:Value)(w:qW)(C:IsRow FG 2 0 P w v xs)
  (u:∀(x:QL) (w':qW),qY w w'->Calls Tryz.prog 261 #[LV x,cap'] w' λe w''=>e=.returned (.bool (p x))/\qY w' w'') :
  Calls Tryz.prog 236 #[v,.func (.func 261) #[] #[cap']] w λe w'=>e=.returned (J (CB p xs))/\qY w w':=by
 obtain⟨ad,cap,rfl,D,k,-,d⟩:=C;unfold maxLen at k;go_enter Tryz.func236,Tryz.ntmps236;go_wp2
 go_loopg [8] xs.length (λg c wr=>∃j:Nat,j+g=xs.length/\c=J j/\qY w wr/\∀i y,i<j->xs[i]?=some y->p y=false)
 case atStart=>exact⟨0,by omega,rfl,Br _ _,λi y B=>by omega⟩
 case round=>
  obtain⟨j,F,rfl,a,h⟩:=hrel;have q:Hid (∀i y,i<j->xs[i]?=some y->p y=false):=h;clear h;by_cases hlt:j<xs.length
  ·obtain⟨b,o,rfl,-,f,l⟩:=d j xs[j] (by simp[hlt]);have n:Hid (xs[j]?=some xs[j]):=by show _=_;simp[hlt]
   generalize xs[j]=x at *;simp only[Nat.add_zero] at f;have u0:=Bf a f;have u1:=Bf a l;clear f l d;have t:(j:Int)<(xs.length:Int):=by omega
   have z:(0:Int)<=(j:Int):=by omega
   go_wp2_with fail;refine (u x _ a).mono ?_;rintro e w1 ⟨rfl,s⟩;by_cases hp:p x=true
   ·go_wp2;go_ret;exact⟨BT (Kq n.out hp q.out).symm,Bh a s⟩
   have r:p x=false:=by simpa using hp
   clear hp;go_wp2;go_roundg (gk-1)
   case measure=>omega
   case rel=>
    refine⟨j+1,by omega,by go_num,Bh a s,λi y B m=>?_⟩;by_cases hij:i=j
    ·subst hij;rw[n.out] at m;cases m;exact r
    exact q.out i y (by omega) m
  obtain rfl:j=xs.length:=by omega
  go_wp2;go_ret;exact⟨BT (Lq λi y m=>q.out i y (Bz m) m).symm,a⟩
theorem xkO {P:Nat->Prop}(cap':Value)(p:QT->Bool)(xs:List QT)(v:Value)(w:qW)(M:IsRow Mh 4 0 P w v xs)
  (H:∀(x:QT) (a:Option Addr) (n c:Nat) (w':qW),qY w w'->Calls Tryz.prog 196 #[TV x (qS a n c),cap'] w' λe w''=>e=.returned (.bool (p x))/\qY w' w'') :
  Calls Tryz.prog 195 #[v,.func (.func 196) #[] #[cap']] w λe w'=>e=.returned (J (CB p xs))/\qY w w':=by
 obtain⟨ad,cap,rfl,N,s,-,f⟩:=M;unfold maxLen at s;go_enter Tryz.func195,Tryz.ntmps195;go_wp2
 go_loopg [8] xs.length (λg c wr=>∃j:Nat,j+g=xs.length/\c=J j/\qY w wr/\∀i y,i<j->xs[i]?=some y->p y=false)
 case atStart=>exact⟨0,by omega,rfl,Br _ _,λi y L=>by omega⟩
 case round=>
  obtain⟨j,Q,rfl,d,r⟩:=hrel;have C:Hid (∀i y,i<j->xs[i]?=some y->p y=false):=r;clear r;by_cases hlt:j<xs.length
  ·obtain⟨b,o,rfl,-,h,t,k,sv,m,q⟩:=f j xs[j] (by simp[hlt]);have B:Hid (xs[j]?=some xs[j]):=by show _=_;simp[hlt]
   generalize xs[j]=x at *;simp only[Nat.add_zero] at h;have u0:=Bf d h;have u1:=Bf d t;have u2:=Bf d k;have u3:=Bf d m;obtain⟨u,l,rfl,-,-,-,-⟩:=id q;clear h t k m q f;have G:(j:Int)<(xs.length:Int):=by omega
   have K:(0:Int)<=(j:Int):=by omega
   go_wp2_with fail;refine (H x u x.lz.length l _ d).mono ?_;rintro e w1 ⟨rfl,F⟩;by_cases hp:p x=true
   ·go_wp2;go_ret;exact⟨BT (Kq B.out hp C.out).symm,Bh d F⟩
   have D:p x=false:=by simpa using hp
   clear hp;go_wp2;go_roundg (gk-1)
   case measure=>omega
   case rel=>
    refine⟨j+1,by omega,by go_num,Bh d F,λi y L z=>?_⟩;by_cases hij:i=j
    ·subst hij;rw[B.out] at z;cases z;exact D
    exact C.out i y (by omega) z
  obtain rfl:j=xs.length:=by omega
  go_wp2;go_ret;exact⟨BT (Lq λi y z=>C.out i y (Bz z) z).symm,d⟩
theorem xkZ {P:Nat->Prop}(cap':Value)(p:QE->Bool)(xs:List QE)(v:Value)(w:qW)(Q:IsRow Ln 6 0 P w v xs)
  (L:∀(x:QE) (a:Option Addr) (n c:Nat) (w':qW),qY w w'->Calls Tryz.prog 260 #[EV x (qS a n c),cap'] w' λe w''=>e=.returned (.bool (p x))/\qY w' w'') :
  Calls Tryz.prog 259 #[v,.func (.func 260) #[] #[cap']] w λe w'=>e=.returned (J (CB p xs))/\qY w w':=by
 obtain⟨ad,cap,rfl,R,u,-,f⟩:=Q;unfold maxLen at u;go_enter Tryz.func259,Tryz.ntmps259;go_wp2
 go_loopg [8] xs.length (λg c wr=>∃j:Nat,j+g=xs.length/\c=J j/\qY w wr/\∀i y,i<j->xs[i]?=some y->p y=false)
 case atStart=>exact⟨0,by omega,rfl,Br _ _,λi y N=>by omega⟩
 case round=>
  obtain⟨j,S,rfl,d,s⟩:=hrel;have F:Hid (∀i y,i<j->xs[i]?=some y->p y=false):=s;clear s;by_cases hlt:j<xs.length
  ·obtain⟨b,o,rfl,-,h,z,l,q,t,sv,k,r⟩:=f j xs[j] (by simp[hlt]);have D:Hid (xs[j]?=some xs[j]):=by show _=_;simp[hlt]
   generalize xs[j]=x at *;simp only[Nat.add_zero] at h;have u0:=Bf d h;have u1:=Bf d z;have u2:=Bf d l;have u3:=Bf d q;have u4:=Bf d t;have u5:=Bf d k;obtain⟨B,m,rfl,-,-,-,-⟩:=id r;clear h z l q t k r f;have K:(j:Int)<(xs.length:Int):=by omega
   have M:(0:Int)<=(j:Int):=by omega
   go_wp2_with fail;refine (L x B x.lz.length m _ d).mono ?_;rintro e w1 ⟨rfl,H⟩;by_cases hp:p x=true
   ·go_wp2;go_ret;exact⟨BT (Kq D.out hp F.out).symm,Bh d H⟩
   have G:p x=false:=by simpa using hp
   clear hp;go_wp2;go_roundg (gk-1)
   case measure=>omega
   case rel=>
    refine⟨j+1,by omega,by go_num,Bh d H,λi y N C=>?_⟩;by_cases hij:i=j
    ·subst hij;rw[D.out] at C;cases C;exact G
    exact F.out i y (by omega) C
  obtain rfl:j=xs.length:=by omega
  go_wp2;go_ret;exact⟨BT (Lq λi y C=>F.out i y (Bz C) C).symm,d⟩
theorem xea (x:QL)(b:Nat)(k:Int)(w:qW)(a:w.cell? (O b 0)=some (J k)):Calls Tryz.prog 237 #[LV x,qP b] w λe w'=>e=.returned (.bool (x.cls == k))/\qY w w':=by
 have k:=λy=>Bf (Bg w y) a;go_enter Tryz.func237,Tryz.ntmps237;go_wp2;go_ret;exact⟨Cq rfl,Bg _ _⟩
theorem xjp (x:QL)(b:Nat)(k:Int)(w:qW)(a:w.cell? (O b 0)=some (J k)):Calls Tryz.prog 261 #[LV x,qP b] w λe w'=>e=.returned (.bool (x.cls == k))/\qY w w':=by
 have k:=λy=>Bf (Bg w y) a;go_enter Tryz.func261,Tryz.ntmps261;go_wp2;go_ret;exact⟨Cq rfl,Bg _ _⟩
theorem xkT (x:QT)(a:Option Addr)(n c b:Nat)(s:QS)(w:qW)(d:SiteAt w b s):Calls Tryz.prog 196 #[TV x (qS a n c),qP b] w λe w'=>e=.returned (.bool (Cw x.site s))/\qY w w':=by
 have k0:=λy=>Bf (Bg w y) d.c0;have k1:=λy=>Bf (Bg w y) d.c1;have k2:=λy=>Bf (Bg w y) d.c2;have f:=λw=>eqlS x.site s w;go_enter Tryz.func196,Tryz.ntmps196;go_wp2;go_ret;exact⟨Cq rfl,Bg _ _⟩
theorem xmN (x:QE)(a:Option Addr)(n c b:Nat)(s:QS)(w:qW)(d:SiteAt w b s):Calls Tryz.prog 260 #[EV x (qS a n c),qP b] w λe w'=>e=.returned (.bool (Cw x.site s))/\qY w w':=by
 have k0:=λy=>Bf (Bg w y) d.c0;have k1:=λy=>Bf (Bg w y) d.c1;have k2:=λy=>Bf (Bg w y) d.c2;have f:=λw=>eqlS x.site s w;go_enter Tryz.func260,Tryz.ntmps260;go_wp2;go_ret;exact⟨Cq rfl,Bg _ _⟩
def Cy (xs:List QC)(c:Int):Option QC:=if 0<=c then xs[c.toNat]? else none
theorem Mv {xs:List QC}{k:Nat}:Cy xs (k:Int)=xs[k]?:=by simp[Cy]
theorem Gl {xs:List QC}{c:Int}{x:QC}(h:Cy xs c=some x):∃k:Nat,c=(k:Int)/\xs[k]?=some x:=by
 unfold Cy at h;split at h
 ·exact⟨c.toNat,by omega,h⟩
 cases h
theorem PQ {xs:List QC}{c:Int}:Dg xs.length c=(Cy xs c).isSome:=by
 unfold Dg Cy;by_cases h:0<=c
 ·rw[Bool.eq_iff_iff];simp[h]
 simp[h]
def Df {σ:Type}(vis:σ->Nat->QC->σ × Bool)(xs:List QC):Nat->Int->σ->σ
 | 0,_,s=>s
 | n+1,c,s=>match Cy xs c with
  | none=>s
  | some x=>if (vis s c.toNat x).2 then Df vis xs n x.super (vis s c.toNat x).1 else (vis s c.toNat x).1
theorem xjI {σ:Type}{P M:Nat->Prop}(d:σ->Nat->QC->σ × Bool)(R:Nat->σ->World->Prop)(p1 p2:Value)(xs:List QC)(c:Int)(s0:σ)(cv hv:Value)(ep:Int)(w:qW)(C:BK P w cv xs)(r:∃a n c,hv=qS a n c)(W:R 0 s0 w)(hM:∀b,M b->b<w.heap.size)
  (Y:∀j s w',R j s w'->BK P w' cv xs) (T:∀j s w' w'',R j s w'->qY w' w''->R j s w'')
  (hF:∀(j:Nat) s (k:Nat) x w',j<xs.length+1->R j s w'->xs[k]?=some x->Calls Tryz.prog 107 #[J k,p1,p2] w' λe w''=>e=.returned (.bool (d s k x).2)/\R (j+1) (d s k x).1 w''/\Keeps (λb=>¬ M b) w' w''/\w'.heap.size<=w''.heap.size) :
  Calls Tryz.prog 106 #[WV cv hv ep,J c,.func (.func 107) #[] #[p1,p2]] w λe w'=>e=.returned (.tuple #[])/\∃j,R j (Df d xs (xs.length+1) c s0) w':=by
 obtain⟨ad,cap,rfl,hl,q,u,f⟩:=id C;obtain⟨ah,nh,ch,rfl⟩:∃a n c,hv=qS a n c:=r;unfold maxLen at q;go_enter Tryz.func106,Tryz.ntmps106;go_wp2;have N:(w.alloc (qC #[qS ad xs.length cap,qS ah nh ch,J ep] 26)).cell? (O w.heap.size 0)=some (qS ad xs.length cap):=by simp
 have K:(w.alloc (qC #[qS ad xs.length cap,qS ah nh ch,J ep] 26)).cell? (O w.heap.size 1)=some (qS ah nh ch):=by simp
 have L:(w.alloc (qC #[qS ad xs.length cap,qS ah nh ch,J ep] 26)).cell? (O w.heap.size 2)=some (J ep):=by simp
 have F:¬ M w.heap.size:=λh=>by have:=hM _ h;omega
 have H:=T 0 s0 w _ W (Bg w (qC #[qS ad xs.length cap,qS ah nh ch,J ep] 26));clear W f C
 go_loopg [1,10] (xs.length+1) (λg c' i wr=>∃(j:Nat) (cc:Int) (s:σ),j+g=xs.length+1/\i=J j/\c'=J cc/\R j s wr/\Df d xs (xs.length+1) c s0=Df d xs g cc s/\wr.cell? (O w.heap.size 0)=some (qS ad xs.length cap)/\wr.cell? (O w.heap.size 1)=some (qS ah nh ch)/\wr.cell? (O w.heap.size 2)=some (J ep))
 case atStart=>exact⟨0,c,s0,by omega,rfl,rfl,H,rfl,N,K,L⟩
 case round=>
  obtain⟨j,cc,s,hj,rfl,rfl,z,V,c0,c1,c2⟩:=hrel;have S:Hid (Df d xs (xs.length+1) c s0=Df d xs gk cc s):=V;clear V N K L H;by_cases hlt:j<xs.length+1
  ·obtain⟨g',rfl⟩:∃g',gk=g'+1:=⟨gk-1,by omega⟩
   have X:(j:Int)<(xs.length:Int)+1:=by omega
   cases B:Cy xs cc with
   | none=>
    have C:Dg xs.length cc=false:=by rw[PQ,B];rfl
    have Q:Hid (Cy xs cc=none):=B;clear B;go_wp2_with fail;refine (Lw _ _ _ _ _ _ _ _ _).mono ?_;rintro e w1 ⟨rfl,D⟩;rw[C];go_wp2;refine Bt (v:=.tuple #[]) (by simp[results,Tryz.results106,go_sem]) rfl ⟨rfl,j,?_⟩;rw[S.out];simp only[Df,Q.out];exact T _ _ _ _ z D
   | some x=>
    have C:Dg xs.length cc=true:=by rw[PQ,B];rfl
    obtain⟨k,rfl,m⟩:=Gl B;have Q:Hid (xs[k]?=some x):=m;have U:Hid (Cy xs (k:Int)=some x):=B;have hk:=Bz m;clear B m;have a0:(0:Int)<=(k:Int):=by omega
    have Z:(k:Int)<(xs.length:Int):=by omega
    go_wp2_with fail;refine (Lw _ _ _ _ _ _ _ _ _).mono ?_;rintro e w1 ⟨rfl,D⟩;rw[C];replace z:=T _ _ _ _ z D;replace c0:=Bf D c0;replace c1:=Bf D c1;replace c2:=Bf D c2;clear D C;go_wp2_with fail;refine (hF j s k x w1 hlt z Q.out).mono ?_;rintro e w2 ⟨rfl,l,p,-⟩;replace c0:=p _ _ _ F c0;replace c1:=p _ _ _ F c1;replace c2:=p _ _ _ F c2
    cases G:(d s k x).2
    ·go_wp2;refine Bt (v:=.tuple #[]) (by simp[results,Tryz.results106,go_sem]) rfl ⟨rfl,j+1,?_⟩;rw[S.out];simp only[Df,U.out,Int.toNat_natCast,G];exact l
    obtain⟨t,cap',e',-,-,-,f⟩:=Y _ _ _ l;simp only[Value.slice.injEq] at e';obtain⟨rfl,-,rfl⟩:=e';obtain⟨b,o,rfl,-,-,y,-⟩:=f k x Q.out;clear f;go_wp2;go_roundg g'
    case measure=>omega
    case rel=>
     refine⟨j+1,x.super,(d s k x).1,by omega,by go_num,rfl,l,?_,c0,c1,c2⟩;rw[S.out];simp only[Df,U.out,Int.toNat_natCast,G,if_true]
  obtain rfl:gk=0:=by omega
  go_wp2;go_end0;refine⟨rfl,j,?_⟩;rw[S.out];exact z
theorem xpI {σ:Type}{P M:Nat->Prop}(d:σ->Nat->QC->σ × Bool)(R:Nat->σ->World->Prop)(p1 p2 p3 p4:Value)(xs:List QC)(c:Int)(s0:σ)(cv hv:Value)(ep:Int)(w:qW)(C:BK P w cv xs)(r:∃a n c,hv=qS a n c)(W:R 0 s0 w)(hM:∀b,M b->b<w.heap.size)
  (Y:∀j s w',R j s w'->BK P w' cv xs) (T:∀j s w' w'',R j s w'->qY w' w''->R j s w'')
  (hF:∀(j:Nat) s (k:Nat) x w',j<xs.length+1->R j s w'->xs[k]?=some x->Calls Tryz.prog 192 #[J k,p1,p2,p3,p4] w' λe w''=>e=.returned (.bool (d s k x).2)/\R (j+1) (d s k x).1 w''/\Keeps (λb=>¬ M b) w' w''/\w'.heap.size<=w''.heap.size) :
  Calls Tryz.prog 106 #[WV cv hv ep,J c,.func (.func 192) #[] #[p1,p2,p3,p4]] w λe w'=>e=.returned (.tuple #[])/\∃j,R j (Df d xs (xs.length+1) c s0) w':=by
 obtain⟨ad,cap,rfl,hl,q,u,f⟩:=id C;obtain⟨ah,nh,ch,rfl⟩:∃a n c,hv=qS a n c:=r;unfold maxLen at q;go_enter Tryz.func106,Tryz.ntmps106;go_wp2;have N:(w.alloc (qC #[qS ad xs.length cap,qS ah nh ch,J ep] 26)).cell? (O w.heap.size 0)=some (qS ad xs.length cap):=by simp
 have K:(w.alloc (qC #[qS ad xs.length cap,qS ah nh ch,J ep] 26)).cell? (O w.heap.size 1)=some (qS ah nh ch):=by simp
 have L:(w.alloc (qC #[qS ad xs.length cap,qS ah nh ch,J ep] 26)).cell? (O w.heap.size 2)=some (J ep):=by simp
 have F:¬ M w.heap.size:=λh=>by have:=hM _ h;omega
 have H:=T 0 s0 w _ W (Bg w (qC #[qS ad xs.length cap,qS ah nh ch,J ep] 26));clear W f C
 go_loopg [1,10] (xs.length+1) (λg c' i wr=>∃(j:Nat) (cc:Int) (s:σ),j+g=xs.length+1/\i=J j/\c'=J cc/\R j s wr/\Df d xs (xs.length+1) c s0=Df d xs g cc s/\wr.cell? (O w.heap.size 0)=some (qS ad xs.length cap)/\wr.cell? (O w.heap.size 1)=some (qS ah nh ch)/\wr.cell? (O w.heap.size 2)=some (J ep))
 case atStart=>exact⟨0,c,s0,by omega,rfl,rfl,H,rfl,N,K,L⟩
 case round=>
  obtain⟨j,cc,s,hj,rfl,rfl,z,V,c0,c1,c2⟩:=hrel;have S:Hid (Df d xs (xs.length+1) c s0=Df d xs gk cc s):=V;clear V N K L H;by_cases hlt:j<xs.length+1
  ·obtain⟨g',rfl⟩:∃g',gk=g'+1:=⟨gk-1,by omega⟩
   have X:(j:Int)<(xs.length:Int)+1:=by omega
   cases B:Cy xs cc with
   | none=>
    have C:Dg xs.length cc=false:=by rw[PQ,B];rfl
    have Q:Hid (Cy xs cc=none):=B;clear B;go_wp2_with fail;refine (Lw _ _ _ _ _ _ _ _ _).mono ?_;rintro e w1 ⟨rfl,D⟩;rw[C];go_wp2;refine Bt (v:=.tuple #[]) (by simp[results,Tryz.results106,go_sem]) rfl ⟨rfl,j,?_⟩;rw[S.out];simp only[Df,Q.out];exact T _ _ _ _ z D
   | some x=>
    have C:Dg xs.length cc=true:=by rw[PQ,B];rfl
    obtain⟨k,rfl,m⟩:=Gl B;have Q:Hid (xs[k]?=some x):=m;have U:Hid (Cy xs (k:Int)=some x):=B;have hk:=Bz m;clear B m;have a0:(0:Int)<=(k:Int):=by omega
    have Z:(k:Int)<(xs.length:Int):=by omega
    go_wp2_with fail;refine (Lw _ _ _ _ _ _ _ _ _).mono ?_;rintro e w1 ⟨rfl,D⟩;rw[C];replace z:=T _ _ _ _ z D;replace c0:=Bf D c0;replace c1:=Bf D c1;replace c2:=Bf D c2;clear D C;go_wp2_with fail;refine (hF j s k x w1 hlt z Q.out).mono ?_;rintro e w2 ⟨rfl,l,p,-⟩;replace c0:=p _ _ _ F c0;replace c1:=p _ _ _ F c1;replace c2:=p _ _ _ F c2
    cases G:(d s k x).2
    ·go_wp2;refine Bt (v:=.tuple #[]) (by simp[results,Tryz.results106,go_sem]) rfl ⟨rfl,j+1,?_⟩;rw[S.out];simp only[Df,U.out,Int.toNat_natCast,G];exact l
    obtain⟨t,cap',e',-,-,-,f⟩:=Y _ _ _ l;simp only[Value.slice.injEq] at e';obtain⟨rfl,-,rfl⟩:=e';obtain⟨b,o,rfl,-,-,y,-⟩:=f k x Q.out;clear f;go_wp2;go_roundg g'
    case measure=>omega
    case rel=>
     refine⟨j+1,x.super,(d s k x).1,by omega,by go_num,rfl,l,?_,c0,c1,c2⟩;rw[S.out];simp only[Df,U.out,Int.toNat_natCast,G,if_true]
  obtain rfl:gk=0:=by omega
  go_wp2;go_end0;refine⟨rfl,j,?_⟩;rw[S.out];exact z
theorem xiq (w:qW)(b o:Nat)(v:Value):Below b w (w.setCell (O b o) v):=(Br b w).setCell (Bq b) _
def Hy (s:Int)(_:Nat)(x:QC):Int × Bool:=(s+x.slots,true)
def DY (xs:List QC)(c:Int):Int:=Df Hy xs (xs.length+1) c 0
def Hj (xs:List QC):Prop:=∀(i:Nat) x,xs[i]?=some x->0<=x.slots/\x.slots<=6
theorem xkq {P:Nat->Prop}(xs:List QC)(cv:Value)(s:Int)(k:Nat)(x:QC)(bs bw:Nat)(w:qW)(f:bs≠bw)(l:w.heap[bs]?=some (qC #[J s] 3 (0,0)))(r:w.cell? (O bw 0)=some cv)(n:BK P w cv xs)(m:xs[k]?=some x)(v:IntKind.i64.wrap (s+x.slots)=s+x.slots) :
  Calls Tryz.prog 107 #[J k,qP bs,qP bw] w λe w''=>e=.returned (.bool true)/\w''.heap[bs]?=some (qC #[J (s+x.slots)] 3 (0,0))/\Keeps (λb=>b≠bs) w w''/\Below bs w w'':=by
 obtain⟨ad,cap,rfl,t,c,g,a⟩:=id n;have u:=Bz m;obtain⟨b,o,rfl,-,i,j,d,-⟩:=a k x m;have q:(0:Int)<=(k:Int):=by omega
 have p:(k:Int)<(xs.length:Int):=by omega
 have c1:=cell_of_one l;have f1:=free_of_one l;clear a n m;go_enter Tryz.func107,Tryz.ntmps107;go_wp2
 go_region
 all_goals go_wp2
 all_goals go_ret
 all_goals
  refine⟨rfl,?_,?_,?_⟩
  ·exact one_setCell (by first | exact l | simpa using l)
  ·exact Keeps.of_setCell (λh=>h rfl) _
  first | exact xiq _ _ _ _ | exact (xiq _ _ _ _).drew
theorem PD {xs:List QC}(a:Hj xs):∀(n:Nat) (c s:Int),0<=s->s<=Df Hy xs n c s/\Df Hy xs n c s<=s+6*n
 | 0,c,s,h=>by simp[Df]
 | n+1,c,s,h=>by
  unfold Df
  cases e:Cy xs c with
  | none=>simp;omega
  | some x=>
   obtain⟨k,rfl,d⟩:=Gl e;obtain⟨g,i⟩:=a k x d;obtain⟨f,b⟩:=PD a n x.super (s+x.slots) (by omega);simp only[Hy,if_true] at f b ⊢;omega
def SlR {P:Nat->Prop}(w0:qW)(cv:Value)(xs:List QC)(j:Nat)(s:Int)(w':qW):Prop:=
 qY w0 w'/\BK P w' cv xs/\w'.heap[w0.heap.size+1]?=some (qC #[J s] 3 (0,0))/\w'.cell? (O w0.heap.size 0)=some cv/\0<=s/\s<=6*j
theorem xhF {P:Nat->Prop}(X:QW)(c:Int)(cv hv:Value)(w:qW)(n:BK P w cv X.cz)(r:BP P w hv X.heap)(q:Hj X.cz):Calls Tryz.prog 83 #[WV cv hv X.ez,J c] w λe w'=>e=.returned (J (DY X.cz c))/\qY w w':=by
 have v:=Gm;obtain⟨ad,cap,rfl,u,a,d,-⟩:=id n;obtain⟨ah,ch,rfl,-,-,-,-⟩:=id r;go_enter Tryz.func83,Tryz.ntmps83;go_wp2_with fail;refine (xjI (P:=P) (M:=λb=>b=w.heap.size+1) Hy (SlR (P:=P) w (qS ad X.cz.length cap) X.cz) _ _ X.cz c 0 _ _ _ _ (n.later Bw (BG _ _ _)) ⟨_,_,_,rfl⟩ ?_ ?_ ?_ ?_ ?_).mono ?_
 ·refine⟨BG _ _ _,n.later Bw (BG _ _ _),?_,?_,by omega,by omega⟩
  ·have:=BH (w.alloc (qA ad cap ah ch X)) (qC #[J 0] 3);simpa using this
  exact Bf (Bg _ _) (by rw[Bp _ _ _ _ rfl];rfl)
 ·rintro b rfl;simp
 ·exact λj s w' h=>h.2.1
 ·rintro j s w' w'' ⟨f,m,i,l,o⟩ g;exact⟨Bh f g,m.later Bw g,by rw[g.block _ (By i)];exact i,Bf g l,o⟩
 ·rintro j s k x w' y ⟨f,m,i,l,o,t⟩ p;obtain⟨o1,o2⟩:=q k x p;refine (xkq X.cz _ s k x (w.heap.size+1) w.heap.size w' (by omega) i l m p (by rw[IntKind.wrap_i64];omega)).mono ?_;rintro e w'' ⟨rfl,k1,k2,k3⟩;refine⟨rfl,⟨f.trans (k3.mono (by omega)),?_,k1,k2 _ _ _ (by show _≠_;omega) l,by show (0:Int)<=s+x.slots;omega,by show s+x.slots<=_;omega⟩,k2.mono λb g=>g,k3.size⟩;exact n.later Bw (f.trans (k3.mono (by omega)))
 rintro e w1 ⟨rfl,j,f,m,i,l,o⟩;have c1:=cell_of_one i;go_wp2;go_ret;exact⟨rfl,f⟩
def Kr (name:ByteArray)(s:Int × Int)(k:Nat)(x:QC):(Int × Int) × Bool:=((if 0<=CZ x.mz name then (k:Int) else s.1,CZ x.mz name),decide (CZ x.mz name<0))
def BF (xs:List QC)(c:Int)(name:ByteArray):Int × Int:=Df (Kr name) xs (xs.length+1) c (-1,-1)
theorem xnd {P:Nat->Prop}(n cap:Nat)(name:ByteArray)(s:Int × Int)(k:Nat)(x:QC)(b o bw bn bm bf lo:Nat)(mv:Value)(w:qW)(G:w.heap[bf]?=some (qC #[J s.1] 3 (0,0)))(c:w.heap[bm]?=some (qC #[J s.2] 3 (0,0)))(K:w.cell? (O bw 0)=some (qS (some (O b o)) n cap))(H:w.cell? (O bn 0)=some (qZ name))
  (S:k<n) (hv:w.cell? (O b (o+k*4+3))=some mv) (F:EC P w mv x.mz) (i:bm≠bf) (M:bm≠bw) (Q:bm≠bn) (R:bm≠b) (f:lo<=bm) (g:lo<=bf) :
  Calls Tryz.prog 192 #[J k,qP bw,qP bn,qP bm,qP bf] w λe w''=>e=.returned (.bool (Kr name s k x).2)/\w''.heap[bf]?=some (qC #[J (Kr name s k x).1.1] 3 (0,0))/\w''.heap[bm]?=some (qC #[J (Kr name s k x).1.2] 3 (0,0))/\Keeps (λb=>b≠bm/\b≠bf) w w''/\Below lo w w'':=by
 obtain⟨d,a,rfl,-,-,-,-⟩:=id F;have N:(0:Int)<=(k:Int):=by omega
 have L:(k:Int)<(n:Int):=by omega
 have cm:=cell_of_one c;have fm:=free_of_one c;go_enter Tryz.func192,Tryz.ntmps192;go_wp2;have j:w.drew.cell? (O bw 0)=some (qS (some (O b o)) n cap)/\w.drew.cell? (O b (o+k*4+3))=some (qS d x.mz.length a)/\w.drew.cell? (O bn 0)=some (qZ name):=⟨K,hv,H⟩;have z:=F.later xbj (Br _ _).drew;have l:w.drew.heap[bm]?=some (qC #[J s.2] 3 (0,0)):=c;have r:w.drew.heap[bf]?=some (qC #[J s.1] 3 (0,0)):=G;clear K hv H F cm fm
 go_region_held3 (λw'=>w'.cell? (O bw 0)=some (qS (some (O b o)) n cap)/\w'.cell? (O b (o+k*4+3))=some (qS d x.mz.length a)/\w'.cell? (O bn 0)=some (qZ name))
  (first | exact j | exact v | exact⟨(BV _ _ _ _ M).trans v.1,(BV _ _ _ _ R).trans v.2.1,(BV _ _ _ _ Q).trans v.2.2⟩)
  (first | (go_at_call 103;refine (xc6 x.mz _ name _ z).mono ?_;rintro e w1 ⟨rfl,q⟩;have v:w1.cell? (O bw 0)=some (qS (some (O b o)) n cap)/\w1.cell? (O b (o+k*4+3))=some (qS d x.mz.length a)/\w1.cell? (O bn 0)=some (qZ name):=⟨Bf q j.1,Bf q j.2.1,Bf q j.2.2⟩;have p:w1.heap[bm]?=some (qC #[J s.2] 3 (0,0)):=(by rw[q.block _ (By l)];exact l);have B:w1.heap[bf]?=some (qC #[J s.1] 3 (0,0)):=(by rw[q.block _ (By r)];exact r);have cm1:=cell_of_one p;have fm1:=free_of_one p))
 have t:=one_setCell (u:=J (CZ x.mz name)) p;have m:(w1.setCell (O bm 0) (J (CZ x.mz name))).heap[bf]?=some (qC #[J s.1] 3 (0,0)):=by rw[BS (by omega)];exact B
 have y:Below lo w (w1.setCell (O bm 0) (J (CZ x.mz name))):=((Br _ _).drew.trans (q.mono (BX f (Nat.le_of_lt (By l))))).setCell f _;have C:Keeps (λb=>b≠bm/\b≠bf) w (w1.setCell (O bm 0) (J (CZ x.mz name))):=CK (Keeps.of_below (Bh (Br _ _).drew q)) (λh=>h.1 rfl) _;have c3:=cell_of_one t;have c4:=cell_of_one m;have c5:=free_of_one m;clear j z l r q v p B cm1 fm1 c G;generalize w1.setCell (O bm 0) (J (CZ x.mz name))=w2 at *;by_cases hp:0<=CZ x.mz name
 ·have c6:(w2.setCell (O bf 0) (J (k:Int))).cell? (O bm 0)=some (J (CZ x.mz name)):=(BV _ _ _ _ (by simp;omega)).trans c3;go_wp2;go_ret;refine⟨Cq (by simp[Kr]),?_,?_,?_,?_⟩
  ·have:=one_setCell (u:=J (k:Int)) m;simpa [Kr,hp] using this
  ·rw[BS (by omega)];exact t
  ·exact CK C (λh=>h.2 rfl) _
  exact y.setCell g _
 have D:CZ x.mz name<0:=by omega
 go_wp2;go_ret;refine⟨Cq (by simp[Kr];exact D),?_,t,C,y⟩;simp only[Kr];rw[if_neg (by omega)];exact m
def FiR {P:Nat->Prop}(w0:qW)(cv:Value)(xs:List QC)(name:ByteArray)(_:Nat)(s:Int × Int)(w':qW):Prop:=
 qY w0 w'/\BK P w' cv xs/\w'.heap[w0.heap.size+1+1]?=some (qC #[J s.1] 3 (0,0))/\w'.heap[w0.heap.size+1+1+1]?=some (qC #[J s.2] 3 (0,0))/\w'.cell? (O w0.heap.size 0)=some cv/\w'.cell? (O (w0.heap.size+1) 0)=some (qZ name)
theorem Mb {P:Nat->Prop}(X:QW)(c:Int)(name:ByteArray)(cv hv:Value)(w:qW)(q:BK P w cv X.cz)(C:BP P w hv X.heap):Calls Tryz.prog 142 #[WV cv hv X.ez,J c,qZ name] w λe w'=>e=.returned (.tuple #[J (BF X.cz c name).1,J (BF X.cz c name).2])/\qY w w':=by
 have F:=Gm;obtain⟨ad,cap,rfl,D,d,f,a⟩:=id q;obtain⟨ah,ch,rfl,-,-,-,-⟩:=id C;go_enter Tryz.func142,Tryz.ntmps142;go_wp2_with fail;have r:=(DW w (qA ad cap ah ch X) (qC #[qZ name] 9) (qC #[J (-1)] 3)).alloc (by simp;omega) (qC #[J (-1)] 3);refine (xpI (P:=P) (M:=λb=>b=w.heap.size+1+1+1\/b=w.heap.size+1+1) (Kr name) (FiR (P:=P) w (qS ad X.cz.length cap) X.cz name) _ _ _ _ X.cz c (-1,-1) _ _ _ _ (q.later Bw r) ⟨_,_,_,rfl⟩ ?_ ?_ ?_ ?_ ?_).mono ?_
 ·refine⟨r,q.later Bw r,?_,?_,?_,?_⟩
  ·rw[(Bg _ _).block _ (by simp)];have:=BH ((w.alloc (qA ad cap ah ch X)).alloc (qC #[qZ name] 9)) (qC #[J (-1)] 3);simpa using this
  ·have:=BH (((w.alloc (qA ad cap ah ch X)).alloc (qC #[qZ name] 9)).alloc (qC #[J (-1)] 3)) (qC #[J (-1)] 3);simpa using this
  ·exact Bf (DW _ _ _ _) (by rw[Bp _ _ _ _ rfl];rfl)
  exact Bf (BG _ _ _) (by rw[Bp _ _ _ _ (by simp)];rfl)
 ·rintro b (rfl | rfl)<;>simp
 ·exact λj s w' h=>h.2.1
 ·rintro j s w' w'' ⟨g,u,m,l,n,p⟩ i;exact⟨Bh g i,u.later Bw i,by rw[i.block _ (By m)];exact m,by rw[i.block _ (By l)];exact l,Bf i n,Bf i p⟩
 ·rintro j s k x w' G ⟨g,u,m,l,n,p⟩ y;have z:=Bz y;obtain⟨b,o,rfl,-,-,-,-,-,mv,hv,B⟩:=a k x y;have t:=World.block_lt_of_cell? _ _ hv;simp at t;refine (xnd X.cz.length cap name s k x b o w.heap.size (w.heap.size+1) (w.heap.size+1+1+1) (w.heap.size+1+1) w.heap.size mv w' m l n p z (Bf g hv) (B.later xbj g) (by omega) (by omega) (by omega) (by omega) (by omega) (by omega)).mono ?_;rintro e w'' ⟨rfl,k1,k2,k3,k4⟩;refine⟨rfl,⟨g.trans k4,q.later Bw (g.trans k4),k1,k2,k3 _ _ _ (by omega) n,k3 _ _ _ (by omega) p⟩,k3.mono λb i=>by omega,k4.size⟩
 rintro e w1 ⟨rfl,j,g,u,m,l,n⟩;have c1:=cell_of_one m;have c2:=cell_of_one l;go_wp2;go_quiet (fail);go_wp2;refine Bt (v:=.tuple #[J (BF X.cz c name).1,J (BF X.cz c name).2]) ?_ rfl ⟨rfl,?_⟩
 ·simp[results,Tryz.results142,go_sem,BF]
 first | exact g | exact g.drew | exact below_drewN g _
theorem xsa {b:Bool}(h:¬ b=false):b=true:=by cases b<;>simp_all
theorem xqF {b:Bool}(h:¬ b=true):b=false:=by cases b<;>simp_all
def LL (s:ByteArray):Bool:=decide (∀j:Fin s.size,33<=(s[j.1]'j.2).toNat/\(s[j.1]'j.2).toNat<=126)
def DC (s:ByteArray):Bool:=decide (1<=s.size/\s.size<=12) && LL s
theorem xqh {s:ByteArray}{j:Nat}(a:j<s.size)(h:¬ (33<=s[j].toNat/\s[j].toNat<=126)):LL s=false:=by
 unfold LL;simp only[decide_eq_false_iff_not];exact λk=>h (k ⟨j,a⟩)
theorem xqW {s:ByteArray}(h:∀j (a:j<s.size),33<=s[j].toNat/\s[j].toNat<=126):LL s=true:=by
 unfold LL;simp only[decide_eq_true_eq];exact λj=>h j.1 j.2
theorem Qj (s:ByteArray)(w:qW)(q:s.size<=140737488351232):Calls Tryz.prog 126 #[qZ s] w λe w'=>e=.returned (.bool (DC s))/\qY w w':=by
 by_cases h0:s.size<1
 ·have f:(s.size:Int)<1:=by omega
  have b:DC s=false:=by simp[DC];omega
  rw[b];go_enter Tryz.func126,Tryz.ntmps126;go_wp2;go_ret;exact⟨rfl,Br _ _⟩
 have f:(1:Int)<=(s.size:Int):=by omega
 by_cases h1:12<s.size
 ·have k:(12:Int)<(s.size:Int):=by omega
  have b:DC s=false:=by simp[DC];omega
  rw[b];go_enter Tryz.func126,Tryz.ntmps126;go_wp2;go_ret;exact⟨rfl,Br _ _⟩
 have k:(s.size:Int)<=12:=by omega
 have h:Hid (DC s=LL s):=by show _=_;unfold DC;rw[decide_eq_true (by omega)];rfl
 go_enter Tryz.func126,Tryz.ntmps126;go_wp2
 go_loopg [14] s.size (λg c wr=>∃j:Nat,j+g=s.size/\c=J j/\wr=w/\∀i (d:i<s.size),i<j->33<=s[i].toNat/\s[i].toNat<=126)
 case atStart=>exact⟨0,by omega,rfl,rfl,λi _ d=>by omega⟩
 case round=>
  obtain⟨j,r,rfl,rfl,a⟩:=hrel;have l:Hid (∀i (d:i<s.size),i<j->33<=s[i].toNat/\s[i].toNat<=126):=a;clear a;by_cases hlt:j<s.size
  ·have o:(0:Int)<=(j:Int):=by omega
   have m:(j:Int)<(s.size:Int):=by omega
   by_cases c1:s[j].toNat<=32
   ·have b:Hid (LL s=false):=xqh hlt (by omega);have c1':((s[j].toNat:Nat):Int)<=32:=by omega
    go_wp2;go_ret;exact⟨Cq (by rw[h.out,b.out]),Br _ _⟩
   have c1':(32:Int)<((s[j].toNat:Nat):Int):=by omega
   by_cases c2:126<s[j].toNat
   ·have b:Hid (LL s=false):=xqh hlt (by omega);have c2':(126:Int)<((s[j].toNat:Nat):Int):=by omega
    go_wp2;go_ret;exact⟨Cq (by rw[h.out,b.out]),Br _ _⟩
   have c2':((s[j].toNat:Nat):Int)<=126:=by omega
   have n:Hid (33<=s[j].toNat/\s[j].toNat<=126):=by constructor<;>omega
   clear c1 c2;go_wp2;go_roundg (gk-1)
   case measure=>omega
   case rel=>
    refine⟨j+1,by omega,by go_num,rfl,λi d p=>?_⟩;by_cases he:i=j
    ·subst he;exact n.out
    exact l.out i d (by omega)
  go_wp2;go_ret;exact⟨Cq (by rw[h.out,xqW λi d=>l.out i d (by omega)]),Br _ _⟩
def ML (c:Int):Bool:=decide (c=1\/c=2\/c=3)
theorem xk7 (c:Int)(w:qW):Calls Tryz.prog 128 #[J c] w λe w'=>e=.returned (.bool (ML c))/\qY w w':=by
 by_cases h1:c=1
 ·subst h1;go_enter Tryz.func128,Tryz.ntmps128;go_wp2;go_ret;exact⟨rfl,Br _ _⟩
 by_cases h2:c=2
 ·subst h2;go_enter Tryz.func128,Tryz.ntmps128;go_wp2;go_ret;exact⟨rfl,Br _ _⟩
 have b:(c == 1)=false:=by simpa using h1
 have a:(c == 2)=false:=by simpa using h2
 have d:Hid (ML c=(c == 3)):=by show _=_;rw[Bool.eq_iff_iff];simp[ML,h1,h2]
 clear h1 h2;go_enter Tryz.func128,Tryz.ntmps128;go_wp2;go_ret;exact⟨Cq d.out.symm,Br _ _⟩
theorem xj8 {xs:List QC}(a:Hj xs)(b:xs.length*56<=140737488351232)(c:Int):0<=DY xs c/\DY xs c<=9000000000000000000:=by
 have:=PD a (xs.length+1) c 0 (by omega);unfold DY;omega
theorem xnN {P:Nat->Prop}(X:QW)(c:Int)(cv hv:Value)(w:qW)(g:BK P w cv X.cz)(f:BP P w hv X.heap)(d:Hj X.cz):Calls Tryz.prog 127 #[WV cv hv X.ez,J c] w λe w'=>e=.returned (J (6-DY X.cz c))/\qY w w':=by
 obtain⟨ad,cap,rfl,i,b,a,-⟩:=id g;obtain⟨ah,ch,rfl,-,-,-,-⟩:=id f;have j:=xj8 d a c;go_enter Tryz.func127,Tryz.ntmps127;go_wp2_with fail;refine (xhF X c _ _ _ (g.later Bw (Bg _ _)) (f.later BB (Bg _ _)) d).mono ?_;rintro e w1 ⟨rfl,h⟩;go_wp2;go_ret;exact⟨BT rfl,EB (Br _ _) h⟩
def NC (xs:List QC)(name:ByteArray):Bool:=decide (0<=CB (λm:QC=>CD m.name name) xs)
def EF (xs:List QC)(name:ByteArray)(super slots:Int):Int:=
 if DC name=false\/NC xs name=true then 7
 else if Dg xs.length super=false then 6
 else if slots<0\/6-DY xs super<slots\/ML super=true then 3
 else if 12<=xs.length then 5 else 0
theorem xet {P:Nat->Prop}(X:QW)(name:ByteArray)(super slots:Int)(cv hv:Value)(w:qW)(u:name.size<=140737488351232)(s:BK P w cv X.cz)(t:BP P w hv X.heap)(v:Hj X.cz):Calls Tryz.prog 98 #[WV cv hv X.ez,qZ name,J super,J slots] w λe w'=>e=.returned (J (EF X.cz name super slots))/\qY w w':=by
 have B:=Gm;obtain⟨ad,cap,rfl,y,a,b,-⟩:=id s;obtain⟨ah,ch,rfl,-,-,-,-⟩:=id t;go_enter Tryz.func98,Tryz.ntmps98;have z:Hid (∀x:Obj,True):=λ_=>trivial;have d:((w.alloc (qA ad cap ah ch X)).alloc (qC #[qZ name] 9)).cell? (O w.heap.size 0)=some (qS ad X.cz.length cap):=Bf (Bg _ _) (by rw[Bp _ _ _ _ rfl];rfl);have g:((w.alloc (qA ad cap ah ch X)).alloc (qC #[qZ name] 9)).cell? (O w.heap.size 1)=some (qS ah X.heap.length ch):=Bf (Bg _ _) (by rw[Bp _ _ _ _ rfl];rfl);have i:((w.alloc (qA ad cap ah ch X)).alloc (qC #[qZ name] 9)).cell? (O w.heap.size 2)=some (J X.ez):=Bf (Bg _ _) (by rw[Bp _ _ _ _ rfl];rfl);have j:((w.alloc (qA ad cap ah ch X)).alloc (qC #[qZ name] 9)).cell? (O (w.heap.size+1) 0)=some (qZ name):=by rw[Bp _ _ _ _ (by simp)];rfl
 go_wp2_with fail;refine (xiD X.cz _ _ name _ j (s.later Bw (BG _ _ _))).mono ?_;rintro e w1 ⟨rfl,c⟩;replace d:=Bf c d;replace g:=Bf c g;replace i:=Bf c i;replace j:=Bf c j;have f:=Bh (BG _ _ _) c;clear c;go_wp2_with fail;refine (Qj name _ u).mono ?_;rintro e w2 ⟨rfl,c⟩;replace d:=Bf c d;replace g:=Bf c g;replace i:=Bf c i;replace f:=Bh f c;clear c j;have p:decide (0<=CB (λm:QC=>CD m.name name) X.cz)=NC X.cz name:=rfl;rw[p];clear p;by_cases t1:DC name=false\/NC X.cz name=true
 ·have k:Hid (EF X.cz name super slots=7):=by show _=_;unfold EF;rw[if_pos t1]
  cases n:DC name
  ·go_wp2;go_ret;exact⟨BT k.out.symm,f⟩
  have o:NC X.cz name=true:=t1.resolve_left (by rw[n];simp);rw[o];go_wp2;go_ret;exact⟨BT k.out.symm,f⟩
 have n:DC name=true:=xsa λh=>t1 (Or.inl h);have o:NC X.cz name=false:=xqF λh=>t1 (Or.inr h);rw[n,o];go_wp2_with fail;refine (Lw _ _ _ _ _ _ _ _ _).mono ?_;rintro e w3 ⟨rfl,c⟩;replace d:=Bf c d;replace g:=Bf c g;replace i:=Bf c i;replace f:=Bh f c;clear c
 cases l:Dg X.cz.length super
 ·have k:Hid (EF X.cz name super slots=6):=by show _=_;unfold EF;rw[if_neg t1,if_pos l]
  go_wp2;go_ret;exact⟨BT k.out.symm,f⟩
 have k:Hid (EF X.cz name super slots=if slots<0\/6-DY X.cz super<slots\/ML super=true then 3 else if 12<=X.cz.length then 5 else 0):=by show _=_;unfold EF;rw[if_neg t1,if_neg (by rw[l];simp)]
 by_cases s0:slots<0
 ·go_wp2;go_ret;exact⟨BT (by rw[k.out,if_pos (Or.inl s0)]),f⟩
 have s0':(0:Int)<=slots:=by omega
 go_wp2_with fail;refine (xnN X super _ _ _ (s.later Bw f) (t.later BB f) v).mono ?_;rintro e w4 ⟨rfl,c⟩;replace d:=Bf c d;replace f:=Bh f c;clear c g i;by_cases s1:6-DY X.cz super<slots
 ·go_wp2;go_ret;exact⟨BT (by rw[k.out,if_pos (Or.inr (Or.inl s1))]),f⟩
 have s1':slots<=6-DY X.cz super:=by omega
 go_wp2_with fail;refine (xk7 super _).mono ?_;rintro e w5 ⟨rfl,c⟩;replace d:=Bf c d;replace f:=Bh f c;clear c
 cases q:ML super
 ·have r:Hid (EF X.cz name super slots=if 12<=X.cz.length then 5 else 0):=by
   show _=_;rw[k.out,if_neg];rintro (h | h | h)
   ·omega
   ·omega
   rw[q] at h;cases h
  by_cases s2:12<=X.cz.length
  ·have s2':(12:Int)<=(X.cz.length:Int):=by omega
   go_wp2;go_ret;exact⟨BT (by rw[r.out,if_pos s2]),f⟩
  have s2':(X.cz.length:Int)<12:=by omega
  go_wp2;go_ret;exact⟨BT (by rw[r.out,if_neg s2]),f⟩
 go_wp2;go_ret;exact⟨BT (by rw[k.out,if_pos (Or.inr (Or.inr q))]),f⟩
theorem xey {ops:Array Oper}{rest:List Oper}{o:Oper}{a:Act}{w:qW}{Q:Exit->Act->World->Prop}(i:o.guard=none)(s x:Operand)
  (q:o.op=Op.call { callee:=Callee.builtin Builtin.append,args:=#[s,x],argTypes:=#[23,23] }) (g n:Nat) (C:a.eval s=qG g n n) (Bb:Nat) (M:a.eval x=qG Bb 1 1)
  (cur:Array Value) (c:w.heap[g]?=some (.cells cur 80 (0,0))) (e:cur.size=n*4) (xs:List Value) (G:w.heap[Bb]?=some (.cells xs.toArray 80 (0,0))) (m:xs.length=4) (R:∀u∈xs,u.oneCell'=true) (S:n<1000)
  (D:∀g' cap b w',n+1<=cap->cap<=maxLen->w'.heap[g']?=some (.cells b 80 (0,0))->b.toList.take ((n+1)*4)=cur.toList++xs->w.heap.size<=g'->qY w w'->wpList Tryz.prog ops Q rest (a.put o.dst (qG g' (n+1) cap)) w') :
  wpList Tryz.prog ops Q (o :: rest) a w:=by
 obtain⟨i0,H,v,p,f⟩:=Gb xqd;refine wpList_plain i λK z=>?_;obtain⟨v',w',d,r1,r2⟩:=run_append_arg_grows (P:=Tryz.prog) w 23 o.type 80 i0 _ 4 56 Tryz.underlying23 H v p f rfl (by decide) (O g 0) n n cur.toList (by simpa using e) (λj u B=>by rw[Addr.add_lit,Nat.zero_add,Bn c];simpa using B) (O Bb 0) 1 1 xs (by simpa using m) (λj u B=>by rw[Addr.add_lit,Nat.zero_add,Bn G];simpa using B) (by omega) (by unfold maxLen;omega) (by omega);obtain⟨-,h | ⟨g',cap,b,rfl,L,N,r,l,y,t⟩⟩:=r1
 ·omega
 unfold Oper.wp;simp[execOp,q,resolve,invoke,builtin,C,M,d,Result.andThen];exact z _ _ (D g' cap b w' r l N t L ((Br _ _).grown r2 (Bq _) (λk F=>by cases F)))
theorem Dh (w:qW)(o:Obj)(n:Nat)(a:w.heap.size=n):(w.alloc o).heap[n]?=some o:=by subst a;exact BH w o
def DZ (X:QW)(name:ByteArray)(super slots:Int):QW:=⟨X.cz++[⟨name,super,slots,[]⟩],X.heap,X.ez⟩
theorem IsRow.get {α:Type}{E:CT α}{sz bytes:Nat}{P:Nat->Prop}{w:qW}{v:Value}{xs:List α}(h:IsRow E sz bytes P w v xs):∃ad cap,v=qS ad xs.length cap:=by
 obtain⟨ad,cap,rfl,-⟩:=h;exact⟨_,_,rfl⟩
section
variable {α:Type} {E:CT α} {sz:Nat} {P:Nat->Prop} {w:World} {cs:List Value} {xs:List α}
theorem Cells.take (h:Cells E sz P w cs xs)(G:Good E sz)(p:Nat)(c:p<=xs.length):Cells E sz P w (cs.take (p*sz)) (xs.take p):=by
 have d:=h.1;have b:=Nat.mul_le_mul_right sz c;refine⟨by rw[List.length_take,List.length_take,d,Nat.min_eq_left b,Nat.min_eq_left c],λi x a=>?_⟩;rw[List.getElem?_take] at a;split at a
 ·rename_i f;refine G.move (h.2 i x a) (λ_ h=>h) (.refl _ _) λk e v hv=>?_;rw[List.getElem?_take,if_pos]
  ·exact hv
  have:=Nat.mul_le_mul_right sz (show i+1<=p by omega);rw[Nat.add_mul] at this;omega
 cases a
theorem Cells.drop (h:Cells E sz P w cs xs)(G:Good E sz)(p:Nat)(c:p<=xs.length):Cells E sz P w (cs.drop (p*sz)) (xs.drop p):=by
 have b:=h.1;refine⟨by rw[List.length_drop,List.length_drop,b,Nat.sub_mul],λi x a=>?_⟩;rw[List.getElem?_drop] at a;refine G.move (h.2 _ x a) (λ_ h=>h) (.refl _ _) λk d v hv=>?_;rw[List.getElem?_drop,← Nat.add_assoc,← Nat.add_mul];exact hv
end
theorem xoI {w:qW}{gc h at':Nat}{Q:Nat->Prop}{cur:Array Value}{xs:List QM}{m:QM}{vs:List Value}(a:w.heap[gc]?=some (.cells cur 51 (0,0)))(c:Cells Fk 5 (λb=>gc<b/\b<h) w cur.toList xs)(p:at'<xs.length)(e:vs.length=5)(n:Fk (λb=>Q b/\b≠gc) w (λk=>vs[k]?) m)(o:Q gc)(j:∀b,gc<b->b<h->Q b)(d:xs.length*64<=140737488351232) :
  EC Q (w.setCells gc (at'*5) vs) (qG gc xs.length xs.length) (xs.set at' m):=by
 have r:cur.size=xs.length*5:=by simpa using c.1
 refine⟨_,xs.length,by simp,by simp,by unfold maxLen;omega,by simpa using d,λi x g=>⟨gc,0,rfl,o,?_⟩⟩;have h:=Bz g;simp at h;simp only[Nat.zero_add];by_cases he:i=at'
 ·subst he;rw[List.getElem?_set_self p] at g
  cases g;refine xbj.move n (λb f=>f.1) (Keeps.of_block λb f _=>Er f.2 _ _ _) λk l v hv=>?_;rw[World.cell?_setCells_in gc vs (i*5) w (λq s=>by rw[Bn a];simp;omega) k (by omega)];rw[List.getElem?_eq_getElem (by omega)] at hv;exact hv
 rw[List.getElem?_set_ne (by omega)] at g;refine xbj.move (c.2 i x g) (λb f=>j b f.1 f.2) (Keeps.of_block λb f _=>Er (by have:=f.1;omega) _ _ _) λk l v hv=>?_;rw[World.cell?_setCells_out gc vs (at'*5) w _ (λ_ _=>by simp;omega),Bn a];simpa using hv
theorem xhi {w wf:qW}{g c L:Nat}{xs:List QC}{s:Nat->Nat}{x:QC}{vc:Value}{ms:List QM}(h:OwnC w g xs s xs.length)(q:xs[c]?=some x)(a:xs.length*56<=140737488351232)(t:L<=g)
  (e:∀o v,o≠c*4+3->w.cell? (O g o)=some v->wf.cell? (O g o)=some v) (d:wf.cell? (O g (c*4+3))=some vc) (r:∀i,i≠c->i<xs.length->Keeps (λb=>s i<=b/\b<s (i+1)) w wf) (hv:EC (λb=>L<=b) wf vc ms) :
  BK (λb=>L<=b) wf (qG g xs.length xs.length) (xs.set c { x with mz:=ms }):=by
 have u:=Bz q;refine⟨_,xs.length,by simp,by simp,by unfold maxLen;omega,by simpa using a,λi y f=>⟨g,0,rfl,t,?_⟩⟩;have j:=Bz f;simp at j;simp only[Nat.zero_add];have B:=h.2.1;have C:=h.mono 0 i (by omega) (by omega);by_cases he:i=c
 ·subst he;rw[List.getElem?_set_self u] at f
  cases f;obtain⟨l,k,m,n,-⟩:=h.2.2.2.2 i x j q;exact⟨e _ _ (by omega) l,e _ _ (by omega) k,e _ _ (by omega) m,n,vc,d,hv⟩
 rw[List.getElem?_set_ne (by omega)] at f;have p:=h.2.2.2.2 i y j f;obtain⟨g',e1,e2,e3⟩:=p.meths;obtain⟨l,k,m,n,-⟩:=p;exact⟨e _ _ (by omega) l,e _ _ (by omega) k,e _ _ (by omega) m,n,_,e _ _ (by omega) e1,e3.keep xbj (r i he j) λb z=>by have:=z.1;omega⟩
def HW (xs:List QM)(m:QM):List QM:=
 if 0<=CZ xs m.name then xs.set (CZ xs m.name).toNat m else xs.take (GB xs m.name).toNat++[m]++xs.drop (GB xs m.name).toNat
def KG (e:Int):Int:=wrap64 (e+1)
def Fs (X:QW)(c:Nat)(x:QC)(m:QM):QW:=⟨X.cz.set c { x with mz:=HW x.mz m },X.heap,KG X.ez⟩
theorem xq5 {xs:List QM}{name:ByteArray}(h:0<=CZ xs name):(CZ xs name).toNat<xs.length:=by
 unfold CZ CB at h ⊢
 cases a:xs.findIdx? (λm=>CD m.name name) with
 | none=>rw[a] at h;simp at h
 | some i=>
  simp;rw[List.findIdx?_eq_some_iff_getElem] at a;exact a.1
theorem xgH {xs:List QM}{name:ByteArray}:0<=GB xs name/\(GB xs name).toNat<=xs.length:=by
 unfold GB;split
 ·simp
 rename_i h;unfold CB at h ⊢
 cases a:xs.findIdx? (λm=>GK m.name name) with
 | none=>rw[a] at h;simp at h
 | some i=>
  simp;rw[List.findIdx?_eq_some_iff_getElem] at a;exact Nat.le_of_lt a.1
set_option maxRecDepth 8000
theorem xxY (s:ByteArray)(w:qW)(t:s.size<=140737488351232):Calls Tryz.prog 38 #[qZ s] w λe w'=>e=.returned (.bool (DC s))/\qY w w':=by
 have d:Hid (LL s=false->DC s=false):=λh=>by simp[DC,h]
 go_enter Tryz.func38,Tryz.ntmps38;go_wp2
 go_loopg [6] s.size (λg c wr=>∃j:Nat,j+g=s.size/\c=J j/\wr=w/\∀i (b:i<s.size),i<j->33<=s[i].toNat/\s[i].toNat<=126)
 case atStart=>exact⟨0,by omega,rfl,rfl,λi _ b=>by omega⟩
 case round=>
  obtain⟨j,r,rfl,rfl,a⟩:=hrel;have m:Hid (∀i (b:i<s.size),i<j->33<=s[i].toNat/\s[i].toNat<=126):=a;clear a;by_cases hlt:j<s.size
  ·have p:(0:Int)<=(j:Int):=by omega
   have q:(j:Int)<(s.size:Int):=by omega
   by_cases c1:s[j].toNat<33
   ·have k:Hid (LL s=false):=xqh hlt (by omega);have c1':((s[j].toNat:Nat):Int)<33:=by omega
    go_wp2;go_ret;exact⟨Cq (by rw[d.out k.out]),Br _ _⟩
   have c1':(33:Int)<=((s[j].toNat:Nat):Int):=by omega
   by_cases c2:126<s[j].toNat
   ·have k:Hid (LL s=false):=xqh hlt (by omega);have c2':(126:Int)<((s[j].toNat:Nat):Int):=by omega
    go_wp2;go_ret;exact⟨Cq (by rw[d.out k.out]),Br _ _⟩
   have c2':((s[j].toNat:Nat):Int)<=126:=by omega
   have n:Hid (33<=s[j].toNat/\s[j].toNat<=126):=by constructor<;>omega
   clear c1 c2;go_wp2;go_roundg (gk-1)
   case measure=>omega
   case rel=>
    refine⟨j+1,by omega,by go_num,rfl,λi b o=>?_⟩;by_cases he:i=j
    ·subst he;exact n.out
    exact m.out i b (by omega)
  have l:Hid (LL s=true):=xqW λi b=>m.out i b (by omega);by_cases h0:0<s.size
  ·have f:(0:Int)<(s.size:Int):=by omega
   go_wp2;go_ret;exact⟨Cq (by unfold DC;rw[l.out,Bool.and_true,Bool.eq_iff_iff];simp;omega),Br _ _⟩
  have f:(s.size:Int)<=0:=by omega
  go_wp2;go_ret;exact⟨Cq (by unfold DC;rw[l.out,Bool.and_true,Bool.eq_iff_iff];simp;omega),Br _ _⟩
def Md:CT Int:=λ_ _ f x=>f 0=some (J x)
abbrev LH:=IsRow Md 1 8
theorem xrH:Good Md 1 where
 move h _ _ hf:=hf 0 (by omega) _ h
 there h k hk:=by
  obtain rfl:k=0:=by omega
  exact⟨_,h,rfl⟩
 pos:=by omega
theorem xp7 {P:Nat->Prop}{w:qW}(l:List Int):Cells Md 1 P w (l.map λx=>J x) l:=by
 refine⟨by simp,λi x a=>?_⟩;show (l.map λx=>J x)[i*1+0]?=_;simp[a]
def KX (xs:List QC):Nat->Int->List Int
 | 0,_=>[]
 | n+1,c=>match Cy xs c with
  | none=>[]
  | some x=>c :: KX xs n x.super
theorem xsm:(Tryz.prog.info? 3).map (λi=>(i.zero,i.size,i.bytes))=some (some (J 0),1,8):=by kernel_rfl
theorem xyd {wr w2:qW}{B:Nat}{X:Obj}{a:Option Addr}{e:TypeId}{sz n k:Nat}{xs:List Value}(b:wr.ownsRow B e sz (qS a n k) n xs)(h:B<=wr.heap.size)(d:(wr.alloc X).grownBy w2 (Value.ownBlock (qS a n k))):Below B wr w2:=by
 refine ((Br B wr).alloc h X).grown d (by simp;omega) (λk' f=>?_);obtain⟨-,⟨e,-⟩ | ⟨g,c,cur,e,i,-⟩⟩:=b
 ·rw[e] at f;cases f
 rw[e] at f;simp[Value.ownBlock] at f;omega
theorem xyC {P:Nat->Prop}(xs:List QC)(c0:Int)(cv hv:Value)(ep:Int)(w:qW)(hh:BK P w cv xs)(B:∃a n c,hv=qS a n c):Calls Tryz.prog 61 #[WV cv hv ep,J c0] w λe w'=>∃ad cap,e=.returned (qS ad (KX xs (xs.length+1) c0).length cap)/\LH (λb=>w.heap.size<=b) w' (qS ad (KX xs (xs.length+1) c0).length cap) (KX xs (xs.length+1) c0)/\qY w w':=by
 obtain⟨ad,cap,rfl,hl,G,K,r⟩:=id hh;obtain⟨ah,nh,ch,rfl⟩:=B;obtain⟨i0,hi,C,D,F⟩:=Gb xsm;go_enter Tryz.func61,Tryz.ntmps61;go_wp2
 go_loopg [1,5] (xs.length+1) (λg c' l wr=>∃(d:List Int) (cc:Int) (a:Option Addr) (k:Nat),d.length+g=xs.length+1/\c'=J cc/\l=qS a d.length k/\Below (w.heap.size+1) (w.alloc (qC #[qS ad xs.length cap,qS ah nh ch,J ep] 26)) wr/\wr.ownsRow (w.heap.size+1) 3 1 (qS a d.length k) d.length (d.map λx=>J x)/\KX xs (xs.length+1) c0=d++KX xs g cc)
 case atStart=>exact⟨[],c0,none,0,by simp,rfl,rfl,(Br _ _),⟨by simp,Or.inl ⟨rfl,rfl⟩⟩,rfl⟩
 case round=>
  obtain⟨d,cc,a,k,hg,rfl,rfl,f,m,Z⟩:=hrel;have Y:Hid (KX xs (xs.length+1) c0=d++KX xs gk cc):=Z;clear Z;have R:qY w wr:=(Bg _ _).trans (f.mono (by omega));have b0:wr.cell? (O w.heap.size 0)=some (qS ad xs.length cap):=by rw[f.cell (by simp)];simp
  have a2:d.length<=xs.length+1:=by omega
  have a3:d.length<=k:=by
   obtain⟨-,h | ⟨g,c,cur,e,-,-,U,-⟩⟩:=m;· omega
   cases e;exact U
  have M:∀(S:KX xs gk cc=[]),∃ad cap,Ending.returned (qS a d.length k)=.returned (qS ad (KX xs (xs.length+1) c0).length cap)/\LH (λb=>w.heap.size<=b) wr (qS ad (KX xs (xs.length+1) c0).length cap) (KX xs (xs.length+1) c0)/\qY w wr:=λS=>by
   rw[Y.out,S,List.append_nil];refine⟨a,k,rfl,?_,R⟩;obtain⟨-,⟨e,T⟩ | ⟨g,c,cur,e,U,h2,h3,h4,h5,h6⟩⟩:=m
   ·have:d=[]:=List.eq_nil_of_length_eq_zero T;subst this;refine⟨a,k,rfl,by simp,?_,by simp,λi x Q=>by simp at Q⟩
    cases e;unfold maxLen;omega
   cases e;exact (xp7 d).row xrH (by omega) h2 h6 h3 h4 (by omega)
  cases Q:Cy xs cc with
  | none=>
   have S:Hid (KX xs gk cc=[]):=by show _=_;cases gk<;>simp[KX,Q]
   by_cases T:0<=cc
   ·have U:(xs.length:Int)<=cc:=by
     have:=PQ (xs:=xs) (c:=cc);rw[Q] at this;simp[Dg] at this;omega
    go_wp2;go_ret;exact M S.out
   have a0:cc<0:=by omega
   have hd:decide (0<=cc)=false:=by simpa using T
   go_wp2;go_ret;exact M S.out
  | some x=>
   obtain⟨q,rfl,t⟩:=Gl Q;have hq:=Bz t;have a4:(0:Int)<=(q:Int):=by omega
   have a5:(q:Int)<(xs.length:Int):=by omega
   by_cases hfu:d.length<=xs.length
   ·obtain⟨g',rfl⟩:∃g',gk=g'+1:=⟨gk-1,by omega⟩
    have HX:Hid (Cy xs (q:Int)=some x):=Q;obtain⟨b,o,rfl,-,-,y,-⟩:=r q x t;have v1:=Bf R y;have V:(d.length:Int)<=(xs.length:Int):=by omega
    have a1:b<w.heap.size:=World.block_lt_of_cell? _ _ y;have X:w.heap.size+1<=wr.heap.size:=by have:=f.size;simpa using this
    clear Q t M r;go_wp2_with (at_builtin;refine wpList_append_lies _ rfl (.tmp 23) (.tmp 25) 47 rfl (w.heap.size+1) 3 i0 _ 1 8 Tryz.underlying47 hi C D F rfl (by decide) _ d.length _ rfl (m.alloc _) (O _ 0) 1 1 [J q] rfl rfl (λj u W=>(by have:=Bz W;simp at this;subst this;simp at W;subst W;rw[Addr.add_lit];exact (Bp wr _ 3 _ rfl 0).trans rfl)) (by simp;rfl) (by omega) (by unfold maxLen;omega) (by omega) (by simp;have:=f.size;simp at this;omega) _ rfl ?_;intro gg v w2 s z L H;have N:=xyd m X z;have v1:=(N.cell (p:=(O b (o+q*4+1))) (by simp;omega)).trans v1;have b0:=(N.cell (p:=(O w.heap.size 0)) (by simp)).trans b0);go_roundg g'
    case measure=>omega
    case rel=>
     refine⟨d++[(q:Int)],x.super,some (O gg 0),v,by simp;omega,rfl,by simp,f.trans N,?_,?_⟩
     ·simpa using s
     rw[Y.out];simp[KX,HX.out]
   obtain rfl:gk=0:=by omega
   have V:(xs.length:Int)<(d.length:Int):=by omega
   go_wp2;go_ret;exact M rfl
theorem xgf {xs:List QC}:∀(n:Nat) (c:Int) (i:Nat) (k:Int),(KX xs n c)[i]?=some k->∃(q:Nat) (x:QC),k=(q:Int)/\xs[q]?=some x
 | 0,c,i,k,h=>by simp[KX] at h
 | n+1,c,i,k,h=>by
  unfold KX at h
  cases a:Cy xs c with
  | none=>rw[a] at h;simp at h
  | some x=>
   rw[a] at h
   cases i with
   | zero=>
    simp at h;subst h;obtain⟨q,rfl,b⟩:=Gl a;exact⟨q,x,rfl,b⟩
   | succ i=>simp at h;exact xgf n x.super i k h
def xx2 (xs:List QC)(k:Int):Int:=((Cy xs k).map QC.slots).getD 0
def xx0 (xs:List QC):List Int->Int
 | []=>0
 | k :: r=>xx2 xs k+xx0 xs r
theorem xyt {xs:List QC}:∀(n:Nat) (c s:Int),Df Hy xs n c s=s+xx0 xs (KX xs n c)
 | 0,c,s=>by simp[Df,KX,xx0]
 | n+1,c,s=>by
  unfold Df KX
  cases d:Cy xs c with
  | none=>simp[xx0]
  | some x=>
   have b:xx2 xs c=x.slots:=by simp[xx2,d]
   have a:=xyt (xs:=xs) n x.super (s+x.slots);simp only[Hy,if_true,xx0,b] at a ⊢;rw[a];omega
theorem xyk {xs:List QC}(c:Int):DY xs c=xx0 xs (KX xs (xs.length+1) c):=by
 unfold DY;rw[xyt];omega
theorem xyg {xs:List QC}:∀(n:Nat) (c:Int),(KX xs n c).length<=n
 | 0,c=>by simp[KX]
 | n+1,c=>by
  unfold KX
  cases a:Cy xs c with
  | none=>simp
  | some x=>simp;exact xyg n x.super
theorem xyc {xs:List QC}(l r:List Int):xx0 xs (l++r)=xx0 xs l+xx0 xs r:=by
 induction l with
 | nil=>simp[xx0]
 | cons a l ih=>simp only[List.cons_append,xx0,ih];omega
theorem xym {xs:List QC}(b:Hj xs)(l:List Int):0<=xx0 xs l/\xx0 xs l<=6*l.length:=by
 induction l with
 | nil=>simp[xx0]
 | cons a l ih=>
  have:0<=xx2 xs a/\xx2 xs a<=6:=by
   unfold xx2
   cases d:Cy xs a with
   | none=>simp
   | some x=>
    obtain⟨q,-,c⟩:=Gl d;simpa using b q x c
  simp only[xx0,List.length_cons];omega
theorem xxW {P:Nat->Prop}(X:QW)(c:Int)(cv hv:Value)(w:qW)(y:BK P w cv X.cz)(F:BP P w hv X.heap)(z:Hj X.cz):Calls Tryz.prog 39 #[WV cv hv X.ez,J c] w λe w'=>e=.returned (J (DY X.cz c))/\qY w w':=by
 obtain⟨ad,cap,rfl,T,n,p,d⟩:=id y;obtain⟨ah,ch,rfl⟩:=F.get;have R:=xyg (xs:=X.cz) (X.cz.length+1) c;have C:Hid (DY X.cz c=xx0 X.cz (KX X.cz (X.cz.length+1) c)):=xyk c;have B:Hid (∀(i:Nat) (k:Int),(KX X.cz (X.cz.length+1) c)[i]?=some k->∃(q:Nat) (x:QC),k=(q:Int)/\X.cz[q]?=some x):=λi k h=>xgf _ _ i k h;go_enter Tryz.func39,Tryz.ntmps39;go_wp2_with fail;refine (xyC X.cz c _ _ X.ez _ (y.later Bw (Bg _ _)) ⟨_,_,_,rfl⟩).mono ?_;rintro e w1 ⟨au,ku,rfl,G,v⟩;have b0:w1.cell? (O w.heap.size 0)=some (qS ad X.cz.length cap):=Bf v (by rw[Bp _ _ _ _ rfl];rfl);have u:=EB (Br _ _) v;generalize KX X.cz (X.cz.length+1) c=us at *;obtain⟨a',k',e',-,-,-,l⟩:=G;simp only[Value.slice.injEq] at e';obtain⟨rfl,-,rfl⟩:=e';go_wp2
 go_loopg [5,12] us.length (λg s i wr=>∃j:Nat,j+g=us.length/\i=J j/\s=J (xx0 X.cz (us.take j))/\wr=w1)
 case atStart=>exact⟨0,by omega,rfl,rfl,rfl⟩
 case round=>
  obtain⟨j,S,rfl,rfl,rfl⟩:=hrel;by_cases hlt:j<us.length
  ·have r:us[j]?=some us[j]:=by simp[hlt]
   obtain⟨bu,ou,rfl,-,t⟩:=l j _ r;simp only[Nat.mul_one,Nat.add_zero] at t;obtain⟨q,x,f,a⟩:=B.out j _ r;have U:=Bz a;obtain⟨b,o,rfl,-,-,-,m,-⟩:=d q x a;have v2:=Bf u m
   have D:Hid (xx0 X.cz (us.take (j+1))=xx0 X.cz (us.take j)+x.slots):=by
    show _=_;rw[List.take_add_one,r,xyc];simp[xx0,xx2,f,Mv,a]
   obtain⟨o1,o2⟩:=z q x a;have N:=xym z (us.take j);have Q:((us.take j).length:Int)<=us.length:=by simp;omega
   have V:IntKind.i64.wrap (xx0 X.cz (us.take j)+x.slots)=xx0 X.cz (us.take j)+x.slots:=by rw[IntKind.wrap_i64];omega
   replace t:wr.cell? (O bu (ou+j))=some (J (q:Int)):=by rw[← f];exact t
   have L:(0:Int)<=(q:Int):=by omega
   have M:(q:Int)<(X.cz.length:Int):=by omega
   have H:(0:Int)<=(j:Int):=by omega
   have K:(j:Int)<(us.length:Int):=by omega
   clear d l r f a m;generalize xx0 X.cz (us.take j)=sm at *;go_wp2;go_roundg (gk-1)
   case measure=>omega
   case rel=>exact⟨j+1,by omega,by go_num,by rw[D.out],rfl⟩
  go_wp2;go_ret;refine⟨BT ?_,u⟩;rw[C.out,List.take_of_length_le (by omega)]
theorem xph {xs:List QM}{name:ByteArray}(h:CZ xs name<0):CZ xs name=-1:=by
 unfold CZ CB at h ⊢
 cases a:xs.findIdx? (λm=>CD m.name name) with
 | none=>simp
 | some i=>rw[a] at h;simp at h;omega
def Km (xs:List QC)(k:Int):List QM:=((Cy xs k).map QC.mz).getD []
def Fl (xs:List QC)(name:ByteArray):List Int->Int × Int
 | []=>(-1,-1)
 | k :: r=>if 0<=CZ (Km xs k) name then (k,CZ (Km xs k) name) else Fl xs name r
theorem xlu {xs:List QC}{name:ByteArray}:∀(n:Nat) (c:Int),Df (Kr name) xs n c (-1,-1)=Fl xs name (KX xs n c)
 | 0,c=>rfl
 | n+1,c=>by
  unfold Df KX
  cases a:Cy xs c with
  | none=>rfl
  | some x=>
   have b:Km xs c=x.mz:=by simp[Km,a]
   obtain⟨q,rfl,-⟩:=Gl a;simp only[Fl,b,Kr,Int.toNat_natCast];by_cases h:0<=CZ x.mz name
   ·have h':¬ CZ x.mz name<0:=by omega
    simp[h,h']
   have h':CZ x.mz name<0:=by omega
   rw[if_neg h,if_neg h,decide_eq_true h',if_pos rfl,xph h'];exact xlu n x.super
theorem NP {xs:List QC}(c:Int)(name:ByteArray):BF xs c name=Fl xs name (KX xs (xs.length+1) c):=xlu _ _
end Go.Proofs.YtbafokihegegiaaGreatDoor
