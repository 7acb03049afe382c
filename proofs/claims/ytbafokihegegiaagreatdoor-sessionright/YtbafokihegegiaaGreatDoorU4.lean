/- A part. -/
import Derived.Test.YtbafokihegegiaaGreatDoorU3
namespace Go.Proofs.YtbafokihegegiaaGreatDoor
open Go.ChangeShapes Go.WideShapes Go.ChangeAt Go.RowKit
set_option linter.unusedSimpArgs false
set_option linter.unusedVariables false
set_option maxHeartbeats 8000000
set_option maxRecDepth 8000
section
variable {σ:Type}
def xpg (F:Int)(ent:CC σ):Prop:=∀m c n s a,m.sz_<=F->(ent m c n s a).1.sz_<=F/\0<=(ent m c n s a).1.sz_-m.sz_
theorem xln (E:Env σ)(d:Nat){m:Mc σ}(h:m.sz_<=E.fuel):(BY E d m).1.sz_<=E.fuel/\0<=(BY E d m).1.sz_-m.sz_:=by
 unfold BY;split
 ·simp only[];omega
 split
 ·simp only[];omega
 simp only[];omega
theorem xnh {E:Env σ}{ent:CC σ}(c:xpg E.fuel ent)(d:Nat){m:Mc σ}(h:m.sz_<=E.fuel)(f:Fr)(a:Int)(x:QI):(BD ent E d m f a x).1.sz_<=E.fuel/\0<=(BD ent E d m f a x).1.sz_-m.sz_:=by
 have self:m.sz_<=E.fuel/\0<=m.sz_-m.sz_:=⟨h,by omega⟩
 have ED:∀f a b,(Cr m f a b).1.sz_<=E.fuel/\0<=(Cr m f a b).1.sz_-m.sz_:=λf a b=>by rw[xfw];exact self
 unfold BD;split
 ·exact self
 split
 ·exact self
 split
 ·exact self
 split
 ·exact self
 split
 ·exact self
 split
 ·rw[xhQ];exact self
 split
 ·unfold Dv;simp only[];split
  ·exact c { m with st:=_ } _ _ _ _ h
  exact c { m with st:=_ } _ _ _ _ h
 split
 ·exact ED _ _ _
 split
 ·rw[xie];exact self
 unfold DB;split
 ·exact self
 split
 ·exact self
 split
 ·exact self
 split
 ·exact self
 split
 ·exact xln E d h
 exact self
theorem xqo {E:Env σ}{ent:CC σ}(b:xpg E.fuel ent)(d:Nat):∀(g:Nat) {m:Mc σ} (f:Fr),m.sz_<=E.fuel->(CX ent E d g m f).1.sz_<=E.fuel/\0<=(CX ent E d g m f).1.sz_-m.sz_
 | 0,m,f,h=>⟨h,by show 0<=m.sz_-m.sz_;omega⟩
 | g+1,m,f,h=>by
  have self:m.sz_<=E.fuel/\0<=m.sz_-m.sz_:=⟨h,by omega⟩
  unfold CX;generalize (if f.pc<0 then none else f.code[f.pc.toNat]?)=q
  cases q with
  | none=>exact self
  | some x=>
   simp only[];split
   ·exact self
   have a:=xnh b d h { f with pc:=f.pc+1 } f.pc x;split
   ·exact a
   have c:=xqo b d g (BD ent E d m { f with pc:=f.pc+1 } f.pc x).2.1 a.1;exact⟨c.1,by omega⟩
theorem xlA {E:Env σ}(d:Nat){b:Mc σ->Fr->Mc σ × QV × Int}(i:∀ {m} f,m.sz_<=E.fuel->(b m f).1.sz_<=E.fuel/\0<=(b m f).1.sz_-m.sz_):xpg E.fuel (El E d b):=by
 intro m c n s a h;have self:m.sz_<=E.fuel/\0<=m.sz_-m.sz_:=⟨h,by omega⟩
 unfold El
 cases Cp E.cz c n with
 | none=>exact self
 | some mt=>
  simp only[];split
  ·exact self
  split
  ·split
   ·exact self
   simp only[];omega
  split
  ·exact self
  have e:=xln E d h;have g:=i (CW E c n mt s a) e.1;exact⟨g.1,by omega⟩
theorem xl7 (E:Env σ):∀d:Nat,xpg E.fuel (BL E d)
 | 0=>xlA 0 λf h=>⟨h,by simp only[];omega⟩
 | d+1=>xlA (d+1) λf h=>xqo (xl7 E d) d _ f h
end
def EY (X:QW)(s:QV)(name:ByteArray)(args:List QV)(fuel:Int):Int:=
 if DC name=false then 7 else if 4<args.length then 5 else if fuel<0\/400<fuel then 3 else if Cn X.heap.length s≠0 then Cn X.heap.length s else CP (λ_ v=>Cn X.heap.length v) 0 args
def Ht (X:QW)(fuel:Int):Env Unit:=⟨X.cz,fuel,λ_ _ c name=>((),BF X.cz c name),NX⟩
def Lj (X:QW)(s:QV)(name:ByteArray)(args:List QV)(fuel:Int):Mc Unit × QV × Int:=
 BL (Ht X fuel) 20 ⟨X.heap,0,0,()⟩ (BF X.cz (Ch X.heap s) name).1 (BF X.cz (Ch X.heap s) name).2 s args
structure Ran where
 heap:List QO
 v:QV
 err:Int
 sz_:Int
def Dz (X:QW)(s:QV)(name:ByteArray)(args:List QV)(fuel:Int):Ran:=
 if EY X s name args fuel≠0 then ⟨X.heap,BC,EY X s name args fuel,0⟩
 else if (Lj X s name args fuel).2.2≠0 then ⟨X.heap,BC,(Lj X s name args fuel).2.2,(Lj X s name args fuel).1.sz_⟩
 else ⟨(Lj X s name args fuel).1.heap,(Lj X s name args fuel).2.1,0,(Lj X s name args fuel).1.sz_⟩
theorem xd1 {X:QW}{s:QV}{name:ByteArray}{args:List QV}{fuel:Int}(h:EY X s name args fuel=0):(0<=fuel/\fuel<=400)/\Cn X.heap.length s=0/\VsOk X.heap.length args:=by
 unfold EY at h;split at h
 ·cases h
 split at h
 ·cases h
 split at h
 ·cases h
 split at h
 ·rename_i k;exact absurd h k
 rename_i k1 k2 k3 k4;refine⟨by omega,Decidable.of_not_not k4,λv hv=>?_⟩;obtain⟨i,a,rfl⟩:=List.mem_iff_getElem.1 hv;exact Hm h i _ (List.getElem?_eq_getElem a)
theorem xkM {X:QW}{s:QV}{name:ByteArray}{a:List QV}{fuel:Int}(h:(Dz X s name a fuel).err≠0):(Dz X s name a fuel).heap=X.heap/\(Dz X s name a fuel).v=BC/\0<=(Dz X s name a fuel).sz_/\(Dz X s name a fuel).sz_<=400:=by
 unfold Dz at h ⊢;split
 ·exact⟨rfl,rfl,by simp,by simp⟩
 rename_i c;have b:=xd1 (Decidable.of_not_not c);rw[if_neg c] at h;have e:=xl7 (Ht X fuel) 20 ⟨X.heap,0,0,()⟩ (BF X.cz (Ch X.heap s) name).1 (BF X.cz (Ch X.heap s) name).2 s a b.1.1;have d:(Ht X fuel).fuel=fuel:=rfl;split
 ·refine⟨rfl,rfl,?_,?_⟩
  ·simp only[Lj];simp only[] at e;omega
  simp only[Lj];omega
 rename_i k;rw[if_neg k] at h;exact absurd rfl h
theorem xgU {X:QW}(h:BM X=0)(s:QV)(name:ByteArray)(a:List QV)(fuel:Int):BM ⟨X.cz,(Dz X s name a fuel).heap,X.ez⟩=0/\X.heap.length<=(Dz X s name a fuel).heap.length/\Cn (Dz X s name a fuel).heap.length (Dz X s name a fuel).v=0:=by
 unfold Dz;split
 ·exact⟨h,Bq _,FL _⟩
 rename_i c;have b:=xd1 (Decidable.of_not_not c);split
 ·exact⟨h,Bq _,FL _⟩
 exact xnT h (xiV h fuel _) rfl 20 rfl _ _ b.2.1 b.2.2
theorem xkI {P:Nat->Prop}(xs:List QC)(cv:Value)(s:Int)(k:Nat)(x:QC)(bs bw:Nat)(w:qW)(f:bs≠bw)(l:w.heap[bs]?=some (qC #[J s] 3 (0,0)))(z:w.cell? (O bw 0)=some cv)(p:BK P w cv xs)(m:xs[k]?=some x) :
  Calls Tryz.prog 107 #[J k,qP bs,qP bw] w λe w''=>e=.returned (.bool true)/\w''.heap[bs]?=some (qC #[J (Kt s k x).1] 3 (0,0))/\Keeps (λb=>b≠bs) w w''/\Below bs w w'':=by
 obtain⟨ad,cap,rfl,v,c,g,a⟩:=id p;have y:=Bz m;obtain⟨b,o,rfl,-,i,j,d,-⟩:=a k x m;have t:(0:Int)<=(k:Int):=by omega
 have q:(k:Int)<(xs.length:Int):=by omega
 have c1:=cell_of_one l;have f1:=free_of_one l;have n:Hid ((Kt s k x).1=IntKind.i64.wrap (s+x.slots)):=rfl;generalize (Kt s k x).1=u at *;have r:IntKind.i64.wrap (s+x.slots)=u:=n.out.symm;clear a p m;go_enter Tryz.func107,Tryz.ntmps107;go_wp2
 go_region
 all_goals go_wp2
 all_goals go_ret
 all_goals
  refine⟨rfl,?_,?_,?_⟩
  ·first | exact one_setCell (by first | exact l | simpa using l) | (rw[n.out];exact one_setCell (by first | exact l | simpa using l))
  ·exact Keeps.of_setCell (λh=>h rfl) _
  first | exact xiq _ _ _ _ | exact (xiq _ _ _ _).drew
theorem xfD {P:Nat->Prop}(X:QW)(c:Int)(cv hv:Value)(w:qW)(n:BK P w cv X.cz)(p:BP P w hv X.heap):Calls Tryz.prog 83 #[WV cv hv X.ez,J c] w λe w'=>e=.returned (J (Cs X.cz c))/\qY w w':=by
 have r:=Gm;obtain⟨ad,cap,rfl,q,a,d,-⟩:=id n;obtain⟨ah,ch,rfl,-,-,-,-⟩:=id p;go_enter Tryz.func83,Tryz.ntmps83;go_wp2_with fail;refine (xjI (P:=P) (M:=λb=>b=w.heap.size+1) Kt (SlRW (P:=P) w (qS ad X.cz.length cap) X.cz) _ _ X.cz c 0 _ _ _ _ (n.later Bw (BG _ _ _)) ⟨_,_,_,rfl⟩ ?_ ?_ ?_ ?_ ?_).mono ?_
 ·refine⟨BG _ _ _,n.later Bw (BG _ _ _),?_,?_⟩
  ·have:=BH (w.alloc (qA ad cap ah ch X)) (qC #[J 0] 3);simpa using this
  exact Bf (Bg _ _) (by rw[Bp _ _ _ _ rfl];rfl)
 ·rintro b rfl;simp
 ·exact λj s w' h=>h.2.1
 ·rintro j s w' w'' ⟨f,m,i,l⟩ g;exact⟨Bh f g,m.later Bw g,by rw[g.block _ (By i)];exact i,Bf g l⟩
 ·rintro j s k x w' t ⟨f,m,i,l⟩ o;refine (xkI X.cz _ s k x (w.heap.size+1) w.heap.size w' (by omega) i l m o).mono ?_;rintro e w'' ⟨rfl,k1,k2,k3⟩;refine⟨rfl,⟨f.trans (k3.mono (by omega)),?_,k1,k2 _ _ _ (by show _≠_;omega) l⟩,k2.mono λb g=>g,k3.size⟩;exact n.later Bw (f.trans (k3.mono (by omega)))
 rintro e w1 ⟨rfl,j,f,m,i,l⟩;have c1:=cell_of_one i;go_wp2;go_ret;exact⟨rfl,f⟩
theorem xoz (k n h:Int)(w:qW):Calls Tryz.prog 189 #[.agg #[J k,J n],J h] w λe w'=>e=.returned (J (HG k n h))/\qY w w':=by
 go_enter Tryz.func189,Tryz.ntmps189;go_wp2
 all_goals
  go_ret;refine⟨BT ?_,(Br _ _).alloc (Bq _) _⟩
  go_light
  try simp only[beq_iff_eq,bne_iff_ne,ne_eq,beq_eq_false_iff_ne,bne_eq_false_iff_eq] at *
  unfold HG
  (repeat' split)<;>omega
theorem xin (v:QV)(h:Int)(w:qW):Calls Tryz.prog 189 #[VV v,J h] w λe w'=>e=.returned (J (Cn h v))/\qY w w':=xoz v.k v.n h w
def KN (n:Nat)(v:QV):Bool:=decide (v.k=4/\0<=v.n/\v.n<n)
theorem xlt (a:Option Addr)(n c:Nat)(v:QV)(w:qW):Calls Tryz.prog 227 #[qS a n c,VV v] w λe w'=>e=.returned (.bool (KN n v))/\qY w w':=by
 go_enter Tryz.func227,Tryz.ntmps227;go_wp2
 all_goals
  go_ret;refine⟨Cq ?_,Bg _ _⟩
  go_light
  try simp only[beq_iff_eq,bne_iff_ne,ne_eq,beq_eq_false_iff_ne,bne_eq_false_iff_eq] at *
  unfold KN;simp[*]
  try omega
theorem xle {h:List QO}{v:QV}(a:KN h.length v=true):∃(j:Nat) (o:QO),v.n=(j:Int)/\j<h.length/\h[j]?=some o/\KF h v=some o:=by
 unfold KN at a;simp only[decide_eq_true_eq] at a;obtain⟨c,d,e⟩:=a;have b:v.n.toNat<h.length:=by omega
 exact⟨v.n.toNat,h[v.n.toNat],by omega,b,by simp[b],by unfold KF;rw[if_pos ⟨c,d⟩];simp[b]⟩
theorem xiw {h:List QO}{v:QV}(a:KN h.length v=false):KF h v=none:=by
 unfold KN at a;simp only[decide_eq_false_iff_not] at a;unfold KF;split
 ·rename_i k;exact List.getElem?_eq_none (by omega)
 rfl
theorem xfF {P:Nat->Prop}(p:List QO)(hv:Value)(v:QV)(w:qW)(h:BP P w hv p):Calls Tryz.prog 190 #[hv,VV v] w λe w'=>e=.returned (J (Ch p v))/\qY w w':=by
 have m:=Bg w (qH v);have C:=h.later BB m;have b0:(w.alloc (qH v)).cell? (O w.heap.size 0)=some (J v.k):=Bp _ _ _ _ rfl 0;have b1:(w.alloc (qH v)).cell? (O w.heap.size 1)=some (J v.n):=Bp _ _ _ _ rfl 1;obtain⟨a,cap,rfl,-,g,-,-⟩:=id h;unfold maxLen at g;clear h;go_enter Tryz.func190,Tryz.ntmps190;go_upto_region 1 with (fail);generalize (w.alloc (qH v))=W at *;by_cases h0:v.k=0
 ·have q:Hid (Ch p v=1):=by show _=_;unfold Ch;rw[if_pos h0]
  have t:(v.k == 0)=true:=by simpa using h0
  go_wp2;go_ret;exact⟨BT q.out.symm,m⟩
 have t:(v.k == 0)=false:=by simpa using h0
 by_cases h12:v.k=1
 ·have q:Hid (Ch p v=2):=by show _=_;unfold Ch;rw[if_neg h0,if_pos (Or.inl h12)]
  have r:(v.k == 1)=true:=by simpa using h12
  go_wp2;go_ret;exact⟨BT q.out.symm,m⟩
 have r:(v.k == 1)=false:=by simpa using h12
 by_cases h22:v.k=2
 ·have q:Hid (Ch p v=2):=by show _=_;unfold Ch;rw[if_neg h0,if_pos (Or.inr h22)]
  have s:(v.k == 2)=true:=by simpa using h22
  go_wp2;go_ret;exact⟨BT q.out.symm,m⟩
 have s:(v.k == 2)=false:=by simpa using h22
 by_cases h3:v.k=3
 ·have q:Hid (Ch p v=3):=by show _=_;unfold Ch;rw[if_neg h0,if_neg (by omega),if_pos h3]
  have u:(v.k == 3)=true:=by simpa using h3
  go_wp2;go_ret;exact⟨BT q.out.symm,m⟩
 have u:(v.k == 3)=false:=by simpa using h3
 have q:Hid (Ch p v=((KF p v).map QO.cls).getD 0):=by show _=_;unfold Ch;rw[if_neg h0,if_neg (by omega),if_neg h3]
 clear h0 h12 h22 h3;go_wp2_with fail;refine (xlt a p.length cap v _).mono ?_;rintro e w1 ⟨rfl,c⟩;have c1:=Bf c b1;have G:=C.later BB c
 cases B:KN p.length v with
 | false=>
  have y:=hid (xiw B);go_wp2;go_ret;exact⟨BT (by rw[q.out,y.out];rfl),Bh m c⟩
 | true=>
  obtain⟨j,o,z,l,i,f⟩:=xle B;have y:=hid f;rw[z] at c1;obtain⟨a',cap',e,-,-,-,d⟩:=G
  cases e;obtain⟨b,of,rfl,-,e0,-⟩:=d j o i;simp only[Nat.add_zero] at e0;have D:(j:Int)<(p.length:Int):=by omega
  have F:(0:Int)<=(j:Int):=by omega
  clear z i f d;go_wp2;go_ret;exact⟨BT (by rw[q.out,y.out];rfl),Bh m c⟩
theorem xj2 {P:Nat->Prop}(u:List QO)(hv:Value)(v:QV)(n:Int)(w:qW)(h:BP P w hv u):Calls Tryz.prog 280 #[hv,VV v,J n] w λe w'=>e=.returned (VV (Gt u v n))/\qY w w':=by
 have s:=BG w (qH v) (qQ);have G:=h.later BB s;have b0:((w.alloc (qH v)).alloc (qQ)).cell? (O w.heap.size 0)=some (J v.k):=Bf (Bg _ _) (Bp _ _ _ _ rfl 0);have b1:((w.alloc (qH v)).alloc (qQ)).cell? (O w.heap.size 1)=some (J v.n):=Bf (Bg _ _) (Bp _ _ _ _ rfl 1);have r0:((w.alloc (qH v)).alloc (qQ)).cell? (O (w.heap.size+1) 0)=some (J 0):=Bp _ _ _ _ (by simp) 0;have r1:((w.alloc (qH v)).alloc (qQ)).cell? (O (w.heap.size+1) 1)=some (J 0):=Bp _ _ _ _ (by simp) 1;have rf:∀o,((w.alloc (qH v)).alloc (qQ)).frozen? (O (w.heap.size+1) o)=false:=λo=>BN (cur:=#[J 0,J 0]) (t:=41) (by have:=BH (w.alloc (qH v)) (qQ);simpa using this) o;have H:((w.alloc (qH v)).alloc (qQ)).heap.size=w.heap.size+2:=by simp
 obtain⟨a,cap,rfl,-,l,-,-⟩:=id h;unfold maxLen at l;clear h;go_enter Tryz.func280,Tryz.ntmps280;go_upto_region 1 with (fail);generalize ((w.alloc (qH v)).alloc (qQ))=W at *;go_wp2_with fail;refine (xlt a u.length cap v _).mono ?_;rintro e w1 ⟨rfl,c⟩;have c1:=Bf c b1;have Q:=G.later BB c;have s0:=Bf c r0;have s1:=Bf c r1;have sf:∀o,w1.frozen? (O (w.heap.size+1) o)=false:=λo=>(c.frozen (p:=(O (w.heap.size+1) o)) (by simp only[H];omega)).trans (rf o);have B:=hid (Bh s c);clear H b0 b1 r0 r1 rf s c G
 cases F:KN u.length v with
 | false=>
  have z:=hid (xiw F);go_wp2;refine Bt (v:=VV BC) ?_ rfl ⟨by unfold Gt;rw[z.out];rfl,(B.out.setCell (by simp) _).setCell (by simp) _⟩;simp[results,Tryz.results280,go_sem,s0,s1]
 | true=>
  obtain⟨j,o,K,r,m,i⟩:=xle F;have z:Hid (Gt u v n=CR o.slots n):=by show _=_;unfold Gt;rw[i];rfl
  rw[K] at c1;obtain⟨a',cap',e,-,-,-,d⟩:=Q
  cases e;obtain⟨b,of,rfl,-,e0,sv,e1,q⟩:=d j o m;obtain⟨a2,c2,rfl,-,g,-,f⟩:=q;unfold maxLen at g;have M:(j:Int)<(u.length:Int):=by omega
  have N:(0:Int)<=(j:Int):=by omega
  clear K m i d F;by_cases hn:n<0
  ·have y:Hid (CR o.slots n=BC):=by show _=_;unfold CR;rw[if_pos hn]
   have C:decide (n<0)=true:=by simpa using hn
   go_wp2;refine Bt (v:=VV BC) ?_ rfl ⟨by rw[z.out,y.out],(B.out.setCell (by simp) _).setCell (by simp) _⟩;simp[results,Tryz.results280,go_sem,s0,s1]
  have C:decide (n<0)=false:=by simpa using hn
  obtain⟨k,rfl⟩:∃k:Nat,n=k:=⟨n.toNat,by omega⟩
  by_cases hk:k<o.slots.length
  ·have R:o.slots[k]?=some o.slots[k]:=by simp[hk]
   have y:Hid (CR o.slots k=o.slots[k]):=by show _=_;unfold CR;rw[if_neg hn];simp[hk]
   generalize o.slots[k]=x at *;obtain⟨b3,o3,rfl,-,x0,x1⟩:=f k x R;simp only[Nat.add_zero] at x0;have L:(k:Int)<(o.slots.length:Int):=by omega
   have D:¬ ((o.slots.length:Int)<=(k:Int)):=by omega
   go_wp2;refine Bt (v:=VV x) ?_ rfl ⟨by rw[z.out,y.out],(B.out.setCell (by simp) _).setCell (by simp) _⟩;simp[results,Tryz.results280,go_sem,s0,s1]
  have y:Hid (CR o.slots k=BC):=by show _=_;unfold CR;rw[if_neg hn];simp[hk]
  have D:((o.slots.length:Int)<=(k:Int)):=by omega
  go_wp2;refine Bt (v:=VV BC) ?_ rfl ⟨by rw[z.out,y.out],(B.out.setCell (by simp) _).setCell (by simp) _⟩;simp[results,Tryz.results280,go_sem,s0,s1]
theorem NZ (b:Bool)(w:qW):Calls Tryz.prog 269 #[.bool b] w λe w'=>e=.returned (VV ⟨if b then 2 else 1,0⟩)/\qY w w':=by
 cases b
 ·go_enter Tryz.func269,Tryz.ntmps269;go_wp2;refine Bt (v:=VV ⟨1,0⟩) ?_ rfl ⟨rfl,Bg _ _⟩;simp[results,Tryz.results269,go_sem]
 go_enter Tryz.func269,Tryz.ntmps269;go_wp2;refine Bt (v:=VV ⟨2,0⟩) ?_ rfl ⟨rfl,Bg _ _⟩;simp[results,Tryz.results269,go_sem]
theorem xeE (n:Int)(w:qW)(h:-2000000000000000000<=n/\n<=2000000000000000000):Calls Tryz.prog 268 #[J n] w λe w'=>e=.returned (VV ⟨3,n.tmod 1073741825⟩)/\qY w w':=by
 go_enter Tryz.func268,Tryz.ntmps268;go_wp2;refine Bt (v:=VV ⟨3,n.tmod 1073741825⟩) ?_ rfl ⟨rfl,Bg _ _⟩;simp[results,Tryz.results268,go_sem]
theorem xrS {a b:Int}(e:-1073741824<=a/\a<=1073741824)(f:-1073741824<=b/\b<=1073741824):-2000000000000000000<=a*b/\a*b<=2000000000000000000:=by
 have c:a.natAbs<=1073741824:=by omega
 have d:b.natAbs<=1073741824:=by omega
 have g:(a*b).natAbs<=1073741824*1073741824:=by rw[Int.natAbs_mul];exact Nat.mul_le_mul c d
 omega
structure PmR (w:qW)(a b:QV)(w':qW):Prop where
 bel:qY w w'
 a0:w'.cell? (O w.heap.size 0)=some (J a.k)
 a1:w'.cell? (O w.heap.size 1)=some (J a.n)
 b0:w'.cell? (O (w.heap.size+1) 0)=some (J b.k)
 b1:w'.cell? (O (w.heap.size+1) 1)=some (J b.n)
 r0:w'.cell? (O (w.heap.size+2) 0)=some (J 0)
 r1:w'.cell? (O (w.heap.size+2) 1)=some (J 0)
 rf:∀o,w'.frozen? (O (w.heap.size+2) o)=false
 sz:w.heap.size+3<=w'.heap.size
theorem PmR.later {w:qW}{a b:QV}{w' w'':qW}(h:PmR w a b w')(c:qY w' w''):PmR w a b w'':=
 ⟨Bh h.bel c,Bf c h.a0,Bf c h.a1,Bf c h.b0,Bf c h.b1,Bf c h.r0,Bf c h.r1,λo=>(c.frozen (p:=(O (w.heap.size+2) o)) (by have:=h.sz;simp only;omega)).trans (h.rf o),BX h.sz c.size⟩
theorem xq1 (w:qW)(a b:QV):PmR w a b (((w.alloc (qH a)).alloc (qH b)).alloc (qQ)):=by
 refine⟨DW _ _ _ _,Bf (BG _ _ _) (Bp _ _ _ _ rfl 0),Bf (BG _ _ _) (Bp _ _ _ _ rfl 1),Bf (Bg _ _) (Bp _ _ _ _ (by simp) 0),Bf (Bg _ _) (Bp _ _ _ _ (by simp) 1),Bp _ _ _ _ (by simp) 0,Bp _ _ _ _ (by simp) 1,λo=>BN (cur:=#[J 0,J 0]) (t:=41) ?_ o,by simp⟩;have:=BH ((w.alloc (qH a)).alloc (qH b)) (qQ);simpa using this
theorem xpu (p:Int)(a b:QV)(w:qW)(o:a.k=3->-1073741824<=a.n/\a.n<=1073741824)(m:b.k=3->-1073741824<=b.n/\b.n<=1073741824):Calls Tryz.prog 254 #[J p,VV a,VV b] w λe w'=>e=.returned (.tuple #[VV (Fv p a b).1,J (Fv p a b).2])/\qY w w':=by
 have f:=xq1 w a b;go_enter Tryz.func254,Tryz.ntmps254;go_upto_region 1 with (fail);generalize (((w.alloc (qH a)).alloc (qH b)).alloc (qQ))=W at *;obtain⟨-,a0,a1,b0,b1,r0,r1,rf,sz⟩:=id f;simp only[Nat.add_assoc,Nat.reduceAdd] at *;by_cases j:a.k=3/\b.k=3
 ·have l:=And.intro (o j.1) (m j.2);have ak:(a.k == 3)=true:=by simpa using j.1
  have bk:(b.k == 3)=true:=by simpa using j.2
  have ak':(a.k != 3)=false:=by simpa using j.1
  have bk':(b.k != 3)=false:=by simpa using j.2
  have g:Fv p a b=if p=1 then (⟨3,(a.n+b.n).tmod 1073741825⟩,0) else if p=2 then (⟨3,(a.n-b.n).tmod 1073741825⟩,0) else if p=3 then (⟨3,(a.n*b.n).tmod 1073741825⟩,0) else if p=4 then (⟨if a.n<b.n then 2 else 1,0⟩,0) else if p=5 then (⟨if a.n=b.n then 2 else 1,0⟩,0) else (BC,1):=by unfold Fv;rw[if_neg (by omega)]
  have wadd:IntKind.i64.wrap (a.n+b.n)=a.n+b.n:=CM (by omega) (by omega);have wsub:IntKind.i64.wrap (a.n-b.n)=a.n-b.n:=CM (by omega) (by omega);have B:=xrS l.1 l.2;have wmul:IntKind.i64.wrap (a.n*b.n)=a.n*b.n:=CM (by omega) (by omega);have C:=hid l;have D:=hid B;clear l B o m j;by_cases hp1:p=1
  ·have i:Hid (Fv p a b=(⟨3,(a.n+b.n).tmod 1073741825⟩,0)):=by show _=_;rw[g];rw[if_pos hp1]
   have q:(p == 1)=true:=by simpa using hp1
   clear g;go_wp2_with fail;refine (xeE (a.n+b.n) _ (by have:=C.out;omega)).mono ?_;rintro e w1 ⟨rfl,c⟩;have d:=f.later c;clear a0 a1 b0 b1 r0 r1 rf f;obtain⟨-,a0,a1,b0,b1,r0,r1,rf,-⟩:=id d;go_wp2;refine Bt (v:=.tuple #[VV ⟨3,(a.n+b.n).tmod 1073741825⟩,J 0]) ?_ rfl ⟨by rw[i.out],(d.bel.setCell (by simp) _).setCell (by simp) _⟩;simp[results,Tryz.results254,go_sem,r0,r1]
  have q:(p == 1)=false:=by simpa using hp1
  by_cases hp2:p=2
  ·have i:Hid (Fv p a b=(⟨3,(a.n-b.n).tmod 1073741825⟩,0)):=by show _=_;rw[g];rw[if_neg hp1];rw[if_pos hp2]
   have y:(p == 2)=true:=by simpa using hp2
   clear g;go_wp2_with fail;refine (xeE (a.n-b.n) _ (by have:=C.out;omega)).mono ?_;rintro e w1 ⟨rfl,c⟩;have d:=f.later c;clear a0 a1 b0 b1 r0 r1 rf f;obtain⟨-,a0,a1,b0,b1,r0,r1,rf,-⟩:=id d;go_wp2;refine Bt (v:=.tuple #[VV ⟨3,(a.n-b.n).tmod 1073741825⟩,J 0]) ?_ rfl ⟨by rw[i.out],(d.bel.setCell (by simp) _).setCell (by simp) _⟩;simp[results,Tryz.results254,go_sem,r0,r1]
  have y:(p == 2)=false:=by simpa using hp2
  by_cases hp3:p=3
  ·have i:Hid (Fv p a b=(⟨3,(a.n*b.n).tmod 1073741825⟩,0)):=by show _=_;rw[g];rw[if_neg hp1];rw[if_neg hp2];rw[if_pos hp3]
   have t:(p == 3)=true:=by simpa using hp3
   clear g;go_wp2_with fail;refine (xeE (a.n*b.n) _ D.out).mono ?_;rintro e w1 ⟨rfl,c⟩;have d:=f.later c;clear a0 a1 b0 b1 r0 r1 rf f;obtain⟨-,a0,a1,b0,b1,r0,r1,rf,-⟩:=id d;go_wp2;refine Bt (v:=.tuple #[VV ⟨3,(a.n*b.n).tmod 1073741825⟩,J 0]) ?_ rfl ⟨by rw[i.out],(d.bel.setCell (by simp) _).setCell (by simp) _⟩;simp[results,Tryz.results254,go_sem,r0,r1]
  have t:(p == 3)=false:=by simpa using hp3
  by_cases hp4:p=4
  ·have u:(p == 4)=true:=by simpa using hp4
   by_cases hc:a.n<b.n
   ·have i:Hid (Fv p a b=(⟨2,0⟩,0)):=by show _=_;rw[g];rw[if_neg hp1];rw[if_neg hp2];rw[if_neg hp3];rw[if_pos hp4,if_pos hc]
    have s:decide (a.n<b.n)=true:=by simpa using hc
    clear g hp4 hc;go_wp2_with fail;refine (NZ true _).mono ?_;rintro e w1 ⟨rfl,c⟩;have d:=f.later c;clear a0 a1 b0 b1 r0 r1 rf f;obtain⟨-,a0,a1,b0,b1,r0,r1,rf,-⟩:=id d;go_wp2;refine Bt (v:=.tuple #[VV ⟨2,0⟩,J 0]) ?_ rfl ⟨by rw[i.out],(d.bel.setCell (by simp) _).setCell (by simp) _⟩;simp[results,Tryz.results254,go_sem,r0,r1]
   have i:Hid (Fv p a b=(⟨1,0⟩,0)):=by show _=_;rw[g];rw[if_neg hp1];rw[if_neg hp2];rw[if_neg hp3];rw[if_pos hp4,if_neg hc]
   have s:decide (a.n<b.n)=false:=by simpa using hc
   clear g hp4 hc;go_wp2_with fail;refine (NZ false _).mono ?_;rintro e w1 ⟨rfl,c⟩;have d:=f.later c;clear a0 a1 b0 b1 r0 r1 rf f;obtain⟨-,a0,a1,b0,b1,r0,r1,rf,-⟩:=id d;go_wp2;refine Bt (v:=.tuple #[VV ⟨1,0⟩,J 0]) ?_ rfl ⟨by rw[i.out],(d.bel.setCell (by simp) _).setCell (by simp) _⟩;simp[results,Tryz.results254,go_sem,r0,r1]
  have u:(p == 4)=false:=by simpa using hp4
  by_cases hp5:p=5
  ·have r:(p == 5)=true:=by simpa using hp5
   by_cases hc:a.n=b.n
   ·have i:Hid (Fv p a b=(⟨2,0⟩,0)):=by show _=_;rw[g];rw[if_neg hp1];rw[if_neg hp2];rw[if_neg hp3];rw[if_neg hp4];rw[if_pos hp5,if_pos hc]
    have s:(a.n == b.n)=true:=by simpa using hc
    clear g hp5 hc;go_wp2_with fail;refine (NZ true _).mono ?_;rintro e w1 ⟨rfl,c⟩;have d:=f.later c;clear a0 a1 b0 b1 r0 r1 rf f;obtain⟨-,a0,a1,b0,b1,r0,r1,rf,-⟩:=id d;go_wp2;refine Bt (v:=.tuple #[VV ⟨2,0⟩,J 0]) ?_ rfl ⟨by rw[i.out],(d.bel.setCell (by simp) _).setCell (by simp) _⟩;simp[results,Tryz.results254,go_sem,r0,r1]
   have i:Hid (Fv p a b=(⟨1,0⟩,0)):=by show _=_;rw[g];rw[if_neg hp1];rw[if_neg hp2];rw[if_neg hp3];rw[if_neg hp4];rw[if_pos hp5,if_neg hc]
   have s:(a.n == b.n)=false:=by simpa using hc
   clear g hp5 hc;go_wp2_with fail;refine (NZ false _).mono ?_;rintro e w1 ⟨rfl,c⟩;have d:=f.later c;clear a0 a1 b0 b1 r0 r1 rf f;obtain⟨-,a0,a1,b0,b1,r0,r1,rf,-⟩:=id d;go_wp2;refine Bt (v:=.tuple #[VV ⟨1,0⟩,J 0]) ?_ rfl ⟨by rw[i.out],(d.bel.setCell (by simp) _).setCell (by simp) _⟩;simp[results,Tryz.results254,go_sem,r0,r1]
  have r:(p == 5)=false:=by simpa using hp5
  have i:Hid (Fv p a b=(BC,1)):=by show _=_;rw[g];rw[if_neg hp1];rw[if_neg hp2];rw[if_neg hp3];rw[if_neg hp4];rw[if_neg hp5]
  clear g;go_wp2;refine Bt (v:=.tuple #[VV BC,J 1]) ?_ rfl ⟨by rw[i.out],(f.bel.setCell (by simp) _).setCell (by simp) _⟩;simp[results,Tryz.results254,go_sem,r0,r1]
 have z:Hid (Fv p a b=(BC,12)):=by show _=_;unfold Fv;rw[if_pos (by omega)]
 by_cases ak:a.k=3
 ·have ak':(a.k != 3)=false:=by simpa using ak
  have bk':(b.k != 3)=true:=by simpa using λh=>j ⟨ak,h⟩
  clear ak j o m;go_wp2;refine Bt (v:=.tuple #[VV BC,J 12]) ?_ rfl ⟨by rw[z.out],(f.bel.setCell (by simp) _).setCell (by simp) _⟩;simp[results,Tryz.results254,go_sem,r0,r1]
 have ak':(a.k != 3)=true:=by simpa using ak
 clear ak j o m;go_wp2;refine Bt (v:=.tuple #[VV BC,J 12]) ?_ rfl ⟨by rw[z.out],(f.bel.setCell (by simp) _).setCell (by simp) _⟩;simp[results,Tryz.results254,go_sem,r0,r1]
structure Mp (σ:Type) where
 E:Env σ
 cv:Value
 ep:Int
 lv:Value
 qv:Value
section
variable {σ:Type}
abbrev MB (p:Mp σ)(m:Mc σ)(calls:Int)(hv:Value):Obj:=qC #[p.cv,hv,J p.ep,J p.E.fuel,J m.sz_,J calls,J m.tz,p.lv,p.qv] 217 (0,0)
structure MacAt (p:Mp σ)(T:Nat->Nat)(w:qW)(mb:Nat)(m:Mc σ)(calls:Int)(hv:Value)(g:Nat)(s:Nat->Nat):Prop where
 box:w.heap[mb]?=some (MB p m calls hv)
 tag:T mb=1
 heap:HeapSt T w hv g s m.heap
 cls:BK (Fx T w) w p.cv p.E.cz
variable {p:Mp σ} {T T':Nat->Nat} {w w':World} {mb:Nat} {m m':Mc σ} {calls calls':Int} {hv:Value} {g:Nat} {s:Nat->Nat}
theorem MacAt.keep {S:Nat->Prop}(h:MacAt p T w mb m calls hv g s)(e:Ext T T' w)(k:Kp S T w w')(a:¬ S 0)(b:¬ S 1)(c:¬ S 2):MacAt p T' w' mb m calls hv g s:=
 ⟨k.held h.box (by rw[h.tag];exact b),by rw[e _ (By h.box)];exact h.tag,h.heap.keep e k c,h.cls.fx Bw e k a⟩
theorem MacAt.later (h:MacAt p T w mb m calls hv g s)(a:qY w w'):MacAt p T w' mb m calls hv g s:=h.keep (S:=λ_=>False) (.refl _ _) (.of_below a) id id id
theorem MacAt.turn (h:MacAt p T w mb m calls hv g s)(k:Kp (λt=>t=1) T w w')(a:w'.heap[mb]?=some (MB p m' calls' hv))(e:m'.heap=m.heap):MacAt p T w' mb m' calls' hv g s:=
 ⟨a,h.tag,by rw[e];exact h.heap.keep (.refl _ _) k (by omega),h.cls.fx Bw (.refl _ _) k (by omega)⟩
theorem MacAt.c0 (h:MacAt p T w mb m calls hv g s):w.cell? (O mb 0)=some p.cv:=by rw[Bn h.box];rfl
theorem MacAt.c1 (h:MacAt p T w mb m calls hv g s):w.cell? (O mb 1)=some hv:=by rw[Bn h.box];rfl
theorem MacAt.c2 (h:MacAt p T w mb m calls hv g s):w.cell? (O mb 2)=some (J p.ep):=by rw[Bn h.box];rfl
theorem MacAt.c3 (h:MacAt p T w mb m calls hv g s):w.cell? (O mb 3)=some (J p.E.fuel):=by rw[Bn h.box];rfl
theorem MacAt.c4 (h:MacAt p T w mb m calls hv g s):w.cell? (O mb 4)=some (J m.sz_):=by rw[Bn h.box];rfl
theorem MacAt.c5 (h:MacAt p T w mb m calls hv g s):w.cell? (O mb 5)=some (J calls):=by rw[Bn h.box];rfl
theorem MacAt.c6 (h:MacAt p T w mb m calls hv g s):w.cell? (O mb 6)=some (J m.tz):=by rw[Bn h.box];rfl
theorem MacAt.c7 (h:MacAt p T w mb m calls hv g s):w.cell? (O mb 7)=some p.lv:=by rw[Bn h.box];rfl
theorem MacAt.c8 (h:MacAt p T w mb m calls hv g s):w.cell? (O mb 8)=some p.qv:=by rw[Bn h.box];rfl
theorem xoC (h:w.heap[mb]?=some (MB p m calls hv))(n:Int):(w.setCell (O mb 4) (J n)).heap[mb]?=some (MB p { m with sz_:=n } calls hv):=by rw[BW h];rfl
theorem xoi (h:w.heap[mb]?=some (MB p m calls hv))(n:Int):(w.setCell (O mb 5) (J n)).heap[mb]?=some (MB p m n hv):=by rw[BW h];rfl
theorem xrC (h:w.heap[mb]?=some (MB p m calls hv))(n:Int):(w.setCell (O mb 6) (J n)).heap[mb]?=some (MB p { m with tz:=n } calls hv):=by rw[BW h];rfl
theorem xku (h:w.heap[mb]?=some (MB p m calls hv))(xs:List QO)(a:Value):(w.setCell (O mb 1) a).heap[mb]?=some (MB p { m with heap:=xs } calls a):=by rw[BW h];rfl
theorem xit (h:MacAt p T w mb m calls hv g s)(b:0<=m.sz_)(c:p.E.fuel<=9000000000000000000):Calls Tryz.prog 253 #[qP mb] w λe w'=>e=.returned (J (if p.E.fuel<=m.sz_ then 13 else 0))/\MacAt p T w' mb (if p.E.fuel<=m.sz_ then m else { m with sz_:=m.sz_+1 }) calls hv g s/\Kp (λt=>t=1) T w w':=by
 have c3:=h.c3;have c4:=h.c4;have cf:=BN h.box;have H:=hid h;clear h;by_cases hf:p.E.fuel<=m.sz_
 ·rw[if_pos hf,if_pos hf];have a:decide (p.E.fuel<=m.sz_)=true:=by simpa using hf
  go_enter Tryz.func253,Tryz.ntmps253;go_wp2
  go_region
  go_wp2;go_ret;exact⟨rfl,H.out.later (Br _ _).drew,(Kp.refl _ _ _).drew⟩
 rw[if_neg hf,if_neg hf];have a:decide (p.E.fuel<=m.sz_)=false:=by simpa using hf
 have d:IntKind.i64.wrap (m.sz_+1)=m.sz_+1:=CM (by omega) (by omega);go_enter Tryz.func253,Tryz.ntmps253;go_wp2
 go_region
 go_wp2;go_ret;have k:Kp (λt=>t=1) T w (w.setCell (O mb 4) (J (m.sz_+1))).drew:=((Kp.refl _ _ _).set (λ_=>H.out.tag) _ _).drew;exact⟨rfl,H.out.turn k (xoC H.out.box _) rfl,k⟩
theorem xe6 (d:Nat)(h:MacAt p T w mb m calls hv g s)(l:0<=m.sz_)(j:p.E.fuel<=9000000000000000000)(c:calls=20-(d:Int))(i:d<=20):Calls Tryz.prog 230 #[qP mb] w λe w'=>e=.returned (J (BY p.E d m).2)/\MacAt p T w' mb (BY p.E d m).1 calls hv g s/\Kp (λt=>t=1) T w w':=by
 have c3:=h.c3;have c4:=h.c4;have c5:=h.c5;have cf:=BN h.box;have H:=hid h;clear h;by_cases hf:p.E.fuel<=m.sz_
 ·have a:Hid (BY p.E d m=(m,13)):=by show _=_;unfold BY;rw[if_pos hf]
  have i:decide (p.E.fuel<=m.sz_)=true:=by simpa using hf
  go_enter Tryz.func230,Tryz.ntmps230;go_wp2
  go_region
  go_wp2;go_ret;rw[a.out];exact⟨rfl,H.out.later (Br _ _).drew,(Kp.refl _ _ _).drew⟩
 have f:decide (p.E.fuel<=m.sz_)=false:=by simpa using hf
 by_cases hz:d=0
 ·have a:Hid (BY p.E d m=(m,14)):=by show _=_;unfold BY;rw[if_neg hf,if_pos hz]
  have b:decide (20<=calls)=true:=by simp;omega
  clear c hz;go_enter Tryz.func230,Tryz.ntmps230;go_wp2
  go_region
  go_wp2;go_ret;rw[a.out];exact⟨rfl,H.out.later (Br _ _).drew,(Kp.refl _ _ _).drew⟩
 have a:Hid (BY p.E d m=({ m with sz_:=m.sz_+1 },0)):=by show _=_;unfold BY;rw[if_neg hf,if_neg hz]
 have b:decide (20<=calls)=false:=by simp;omega
 have n:IntKind.i64.wrap (m.sz_+1)=m.sz_+1:=CM (by omega) (by omega);clear c hz;go_enter Tryz.func230,Tryz.ntmps230;go_wp2
 go_region
 go_wp2;go_ret;rw[a.out];have k:Kp (λt=>t=1) T w (w.setCell (O mb 4) (J (m.sz_+1))).drew:=((Kp.refl _ _ _).set (λ_=>H.out.tag) _ _).drew;exact⟨rfl,H.out.turn k (xoC H.out.box _) rfl,k⟩
theorem xpt (h:MacAt p T w mb m calls hv g s)(c n:Int):Calls Tryz.prog 228 #[qP mb,J c,J n] w λe w'=>e=.returned (.bool (Cp p.E.cz c n).isSome)/\qY w w':=by
 have c0:=h.c0;obtain⟨a,cap,i,C,f,-,d⟩:=h.cls;rw[i] at c0;unfold maxLen at f;clear h;by_cases h0:c<0
 ·have q:Hid ((Cp p.E.cz c n).isSome=false):=by show _=_;unfold Cp Cy;rw[if_neg (by omega)];rfl
  have z:decide (0<=c)=false:=by simpa using h0
  go_enter Tryz.func228,Tryz.ntmps228;go_wp2;go_ret;exact⟨Cq q.out.symm,Br _ _⟩
 obtain⟨k,rfl⟩:∃k:Nat,c=k:=⟨c.toNat,by omega⟩
 have z:decide (0<=(k:Int))=true:=by simp
 by_cases hk:k<p.E.cz.length
 ·have t:(k:Int)<(p.E.cz.length:Int):=by omega
  have y:p.E.cz[k]?=some p.E.cz[k]:=by simp[hk]
  have v:Hid (Cp p.E.cz (k:Int) n=if 0<=n then p.E.cz[k].mz[n.toNat]? else none):=by show _=_;unfold Cp Cy;simp[hk]
  generalize p.E.cz[k]=x at *;by_cases hn:n<0
  ·have q:Hid ((Cp p.E.cz (k:Int) n).isSome=false):=by show _=_;rw[v.out,if_neg (by omega)];rfl
   have r:decide (0<=n)=false:=by simpa using hn
   go_enter Tryz.func228,Tryz.ntmps228;go_wp2;go_ret;exact⟨Cq q.out.symm,Br _ _⟩
  obtain⟨j,rfl⟩:∃j:Nat,n=j:=⟨n.toNat,by omega⟩
  have r:decide (0<=(j:Int))=true:=by simp
  obtain⟨b,o,rfl,-,e0,e1,e2,e3,mv,e4,B⟩:=d k x y;obtain⟨a2,l,rfl,-,-,-,-⟩:=B
  have q:Hid ((Cp p.E.cz (k:Int) (j:Int)).isSome=decide (j<x.mz.length)):=by
   show _=_;rw[v.out,if_pos (by omega)];by_cases hj:j<x.mz.length<;>simp[hj]
  clear d y v;by_cases hj:j<x.mz.length
  ·have u:(j:Int)<(x.mz.length:Int):=by omega
   go_enter Tryz.func228,Tryz.ntmps228;go_wp2;go_ret;exact⟨Cq (by rw[q.out];simp[hj]),Br _ _⟩
  have u:(x.mz.length:Int)<=(j:Int):=by omega
  go_enter Tryz.func228,Tryz.ntmps228;go_wp2;go_ret;exact⟨Cq (by rw[q.out];simp[hj]),Br _ _⟩
 have q:Hid ((Cp p.E.cz (k:Int) n).isSome=false):=by show _=_;unfold Cp Cy;simp[hk]
 have t:(p.E.cz.length:Int)<=(k:Int):=by omega
 go_enter Tryz.func228,Tryz.ntmps228;go_wp2;go_ret;exact⟨Cq q.out.symm,Br _ _⟩
end
section
variable {σ:Type} {p:Mp σ} {T T':Nat->Nat} {w w':World} {mb:Nat} {m m':Mc σ} {calls calls':Int} {hv:Value} {g:Nat} {s:Nat->Nat} {K fb:Nat} {f:Fr} {cv av tv sv kv:Value}
theorem xir (h:w.heap[fb]?=some (FB f cv av tv sv kv))(n:Int):(w.setCell (O fb 12) (J n)).heap[fb]?=some (FB { f with pc:=n } cv av tv sv kv):=by
 rw[BW h];rfl
theorem FrAt.pcAt (h:FrAt T K w fb f cv av tv sv kv)(k:Kp (λt=>t=K) T w w')(n:Int)(a:w'.heap[fb]?=some (FB { f with pc:=n } cv av tv sv kv)):FrAt T K w' fb { f with pc:=n } cv av tv sv kv:=
 h.turn k a rfl rfl rfl rfl h.stack h.stag h.few
theorem xlX (h:MacAt p T w mb m calls hv g s)(c:FrAt T K w fb f cv av tv sv kv)(a b:Int)(r:0<=m.tz/\m.tz<=300):Calls Tryz.prog 277 #[qP mb,qP fb,J a,J b] w λe w'=>e=.returned (J (Cr m f a b).2.2)/\MacAt p T w' mb (Cr m f a b).1 calls hv g s/\FrAt T K w' fb (Cr m f a b).2.1 cv av tv sv kv/\Kp (λt=>t=1\/t=K) T w w':=by
 have q:=c.pos;have c6:=h.c6;have cf:=BN h.box;have ff:=BN c.box;have d12:w.cell? (O fb 12)=some (J f.pc):=by rw[Bn c.box];rfl
 have l:¬ mb=fb:=λe=>by have:=h.tag;rw[e,c.tag] at this;omega
 have o:¬ fb=mb:=λe=>l e.symm;have H:=hid h;have j:=hid c;have kM:∀w':qW,Kp (λt=>t=1) T w w'->FrAt T K w' fb f cv av tv sv kv:=λw' k=>c.keep (.refl _ _) k (by omega) (by omega) (by omega) (by omega);clear h c;by_cases hb:b<=a
 ·have n:decide (b<=a)=true:=by simpa using hb
  have u:IntKind.i64.wrap (m.tz+1)=m.tz+1:=CM (by omega) (by omega);have k1:Kp (λt=>t=1) T w (w.setCell (O mb 6) (J (m.tz+1))):=(Kp.refl _ _ _).set (λ_=>H.out.tag) _ _;have m1:=H.out.turn (m':={ m with tz:=m.tz+1 }) (calls':=calls) k1 (xrC H.out.box _) rfl;have f1:=kM _ k1;by_cases h3:300<m.tz+1
  ·have i:Hid (Cr m f a b=({ m with tz:=m.tz+1 },f,16)):=by show _=_;unfold Cr;simp only[hb,if_true];rw[if_pos h3]
   have d:decide (300<m.tz+1)=true:=by simpa using h3
   have K1:=hid k1;have M1:=hid m1;have F1:=hid f1;clear k1 m1 f1 kM;go_enter Tryz.func277,Tryz.ntmps277;go_wp2;go_ret;rw[i.out];exact⟨rfl,M1.out,F1.out,K1.out.mono λt h=>Or.inl h⟩
  have i:Hid (Cr m f a b=({ m with tz:=m.tz+1 },{ f with pc:=b },0)):=by show _=_;unfold Cr;simp only[hb,if_true];rw[if_neg h3]
  have d:decide (300<m.tz+1)=false:=by simpa using h3
  have k2:Kp (λt=>t=K) T (w.setCell (O mb 6) (J (m.tz+1))) ((w.setCell (O mb 6) (J (m.tz+1))).setCell (O fb 12) (J b)):=(Kp.refl _ _ _).set (λ_=>j.out.tag) _ _;have F2:=hid (f1.pcAt k2 b (xir f1.box b));have M2:=hid (m1.keep (.refl _ _) k2 (by omega) (by omega) (by omega));have K2:=hid ((k1.mono (S':=λt=>t=1\/t=K) λt h=>Or.inl h).trans (.refl _ _) (k2.mono λt h=>Or.inr h));clear k1 m1 f1 kM k2;go_enter Tryz.func277,Tryz.ntmps277;go_wp2;go_ret;rw[i.out];exact⟨rfl,M2.out,F2.out,K2.out⟩
 have n:decide (b<=a)=false:=by simpa using hb
 have i:Hid (Cr m f a b=(m,{ f with pc:=b },0)):=by show _=_;unfold Cr;simp only[hb,if_false];rw[if_neg (by omega)]
 have d:decide (300<m.tz)=false:=by simp;omega
 have k2:Kp (λt=>t=K) T w (w.setCell (O fb 12) (J b)):=(Kp.refl _ _ _).set (λ_=>j.out.tag) _ _;have F2:=hid (j.out.pcAt k2 b (xir j.out.box b));have M2:=hid (H.out.keep (.refl _ _) k2 (by omega) (by omega) (by omega));have K2:=hid (k2.mono (S':=λt=>t=1\/t=K) λt h=>Or.inr h);clear kM k2;go_enter Tryz.func277,Tryz.ntmps277;go_wp2;go_ret;rw[i.out];exact⟨rfl,M2.out,F2.out,K2.out⟩
structure PvR (w:qW)(a:QV)(w':qW):Prop where
 a0:w'.cell? (O w.heap.size 0)=some (J a.k)
 a1:w'.cell? (O w.heap.size 1)=some (J a.n)
 r0:w'.cell? (O (w.heap.size+1) 0)=some (J 0)
 r1:w'.cell? (O (w.heap.size+1) 1)=some (J 0)
 rf:∀o,w'.frozen? (O (w.heap.size+1) o)=false
 sz:w.heap.size+2<=w'.heap.size
theorem PvR.later {w:qW}{a:QV}{w' w'':qW}(h:PvR w a w')(d:∀b,w.heap.size<=b->b<w'.heap.size->b<w.heap.size+2->w''.heap[b]?=w'.heap[b]?)(g:w'.heap.size<=w''.heap.size):PvR w a w'':=by
 have c:∀b o v,w.heap.size<=b->b<w.heap.size+2->w'.cell? (O b o)=some v->w''.cell? (O b o)=some v:=λb o v f j hv=>by
  have i:=World.block_lt_of_cell? w' (O b o) hv;unfold World.cell? at hv ⊢;rw[d b f i j];exact hv
 refine⟨c _ _ _ (Bq _) (by omega) h.a0,c _ _ _ (Bq _) (by omega) h.a1,c _ _ _ (by omega) (by omega) h.r0,c _ _ _ (by omega) (by omega) h.r1,λo=>?_,BX h.sz g⟩;have:=h.rf o;have e:=h.sz;unfold World.frozen? at this ⊢;simp only at this ⊢;rw[d (w.heap.size+1) (by omega) (by omega) (by omega)];exact this
theorem xnv (w:qW)(a:QV):PvR w a ((w.alloc (qH a)).alloc (qQ)):=by
 refine⟨Bf (Bg _ _) (Bp _ _ _ _ rfl 0),Bf (Bg _ _) (Bp _ _ _ _ rfl 1),Bp _ _ _ _ (by simp) 0,Bp _ _ _ _ (by simp) 1,λo=>BN (cur:=#[J 0,J 0]) (t:=41) ?_ o,by simp⟩;have:=BH (w.alloc (qH a)) (qQ);simpa using this
def GY (E:Env σ)(m:Mc σ)(pr:Int)(self:QV)(args:List QV):Mc σ × QV × Int:=if E.fuel<=m.sz_ then (m,BC,13) else ({ m with sz_:=m.sz_+1 },Fv pr self (CR args 0))
theorem MacAt.tagged0 (h:MacAt p T w mb m calls hv g s)(t:Nat):MacAt p (Dw T w t) w mb m calls hv g s:=h.keep (S:=λ_=>False) (EW T w t) (Kp.refl _ _ _) id id id
theorem FrAt.tagged0 (h:FrAt T K w fb f cv av tv sv kv)(t:Nat):FrAt (Dw T w t) K w fb f cv av tv sv kv:=h.keep (S:=λ_=>False) (EW T w t) (Kp.refl _ _ _) id id id id
theorem xfh {α:Type}{E:CT α}{sz bytes:Nat}{v:Value}{xs:List α}(h:IsRow E sz bytes (Fx T w) w v xs)(G:Good E sz)(t:Nat):IsRow E sz bytes (Fx (Dw T w t) w) w v xs:=h.fx G (EW T w t) (Kp.refl (λ_=>False) T w) id
theorem xiZ (h:MacAt p T w mb m calls hv g s)(h0:0<=m.sz_)(h1:p.E.fuel<=9000000000000000000)(pr:Int)(self:QV)(c:List QV)(av:Value)(X:CG (Fx T w) w av c)(Z:self.k=3->-1073741824<=self.n/\self.n<=1073741824)(K:(CR c 0).k=3->-1073741824<=(CR c 0).n/\(CR c 0).n<=1073741824) :
  Calls Tryz.prog 229 #[qP mb,J pr,VV self,av] w λe w'=>e=.returned (.tuple #[VV (GY p.E m pr self c).2.1,J (GY p.E m pr self c).2.2])/\(∃T',Ext T T' w/\MacAt p T' w' mb (GY p.E m pr self c).1 calls hv g s)/\Kp (λt=>t=1) T w w':=by
 have a3:=By h.box;have hR:=xnv w self;have l:=BG w (qH self) (qQ);have hM:=(h.tagged0 4).later l;have hA:=(xfh X BZ 4).fx BZ (.refl _ w) (Kp.of_below (S:=λ_=>False) l) id;have L:=EW T w 4;have q:∀b,w.heap.size<=b->Dw T w 4 b=4:=λb K=>Gr K;obtain⟨a,cap,rfl,-⟩:=id X;clear X h;generalize Dw T w 4=T1 at *;go_enter Tryz.func229,Tryz.ntmps229;go_upto_region 1 with (fail);generalize ((w.alloc (qH self)).alloc (qQ))=W at *;go_wp2_with fail;refine (xit hM h0 h1).mono ?_;rintro e w1 ⟨rfl,d,f⟩;have F:=hA.fx BZ (.refl _ _) f (by omega);have r:PvR w self w1:=hR.later (λb R l j=>f.blk b l (by rw[q b R];omega)) f.size;have KW:Hid (Kp (λt=>t=1) T w w1):=hid (((Kp.of_below l).trans L f));clear f hA hR hM l;by_cases hf:p.E.fuel<=m.sz_
 ·have B:Hid (GY p.E m pr self c=(m,BC,13)):=by show _=_;unfold GY;rw[if_pos hf]
  rw[if_pos hf] at d ⊢;obtain⟨a0,a1,r0,r1,rf,sz⟩:=r;go_wp2;refine Bt (v:=.tuple #[VV BC,J 13]) ?_ rfl ⟨by rw[B.out],?_,?_⟩
  ·simp[results,Tryz.results229,go_sem,r0,r1]
  ·rw[B.out];exact⟨T1,L,d.keep (.refl _ _) (((Kp.refl (λt=>t=4) _ _).set (λ_=>q _ (by omega)) _ _).set (λ_=>q _ (by omega)) _ _) (by omega) (by omega) (by omega)⟩
  exact (KW.out.set (λh=>absurd h (by omega)) _ _).set (λh=>absurd h (by omega)) _ _
 have B:Hid (GY p.E m pr self c=({ m with sz_:=m.sz_+1 },Fv pr self (CR c 0))):=by show _=_;unfold GY;rw[if_neg hf]
 rw[if_neg hf] at d ⊢;have H:=r.later (w'':=w1.drew) (λb _ _ _=>rfl) (Bq _);have M:=F.later BZ (Br _ w1).drew;have D:=d.later (Br _ w1).drew;have i:w1.drew.cell? (O w.heap.size 0)=some (J self.k)/\w1.drew.cell? (O w.heap.size 1)=some (J self.n):=⟨H.a0,H.a1⟩;have KW2:=hid KW.out.drew;have HQ:=hid H;have Y:=hid D;have HS:=hid Z;have y:=hid K;clear F r d KW H D Z K;have a2:w.heap.size≠w.heap.size+1:=by omega
 go_wp2;obtain⟨u,N⟩:∃u,u=CR c 0:=⟨_,rfl⟩;rw[← N] at y B;have G:Calls Tryz.prog 255 #[qS a c.length cap,J 0] w1.drew λe w'=>e=.returned (VV u)/\Below w1.drew.heap.size w1.drew w':=by rw[N];exact NB c _ 0 _ M
 clear N;obtain⟨v1,e1,Q⟩:∃v1 e1,Fv pr self u=(v1,e1):=⟨_,_,rfl⟩;have C:∀w,Calls Tryz.prog 254 #[J pr,VV self,VV u] w λe w'=>e=.returned (.tuple #[VV v1,J e1])/\qY w w':=λw=>by have:=xpu pr self u w HS.out y.out;rw[Q] at this;exact this
 rw[Q] at B;clear Q HS y;have tokA:True:=trivial
 go_region_held3 (λw'=>w'.cell? (O w.heap.size 0)=some (J self.k)/\w'.cell? (O w.heap.size 1)=some (J self.n))
  (first | with_reducible exact i | with_reducible exact U | with_reducible exact z | exact⟨(BV _ _ _ _ (by simp)).trans ((BV _ _ _ _ (by simp)).trans z.1),(BV _ _ _ _ (by simp)).trans ((BV _ _ _ _ (by simp)).trans z.2)⟩)
  (first
   | (have _t:=tokA;go_at_call 255;refine G.mono ?_;rintro e w2 ⟨rfl,l⟩;have U:=And.intro (Bf l i.1) (Bf l i.2);clear tokA;have tokB:True:=trivial)
   | (have _t:=tokB;go_at_call 254;refine (C _).mono ?_;rintro e w3 ⟨rfl,j⟩;have o:=Bh l j;have V:=HQ.out.later (λb _ hl _=>o.block b hl) o.size;obtain⟨a0,a1,r0,r1,rf,sz⟩:=V;have z:=And.intro a0 a1;clear tokB))
 go_wp2;refine Bt (v:=.tuple #[VV v1,J e1]) ?_ rfl ⟨by rw[B.out],?_,?_⟩
 ·simp[results,Tryz.results229,go_sem,r0,r1]
 ·rw[B.out];exact⟨T1,L,(Y.out.later o).keep (.refl _ _) (((Kp.refl (λt=>t=4) _ _).set (λ_=>q _ (by omega)) _ _).set (λ_=>q _ (by omega)) _ _) (by omega) (by omega) (by omega)⟩
 exact ((KW2.out.on o).set (λh=>absurd h (by omega)) _ _).set (λh=>absurd h (by omega)) _ _
end
theorem xj7 {P:Nat->Prop}(xs:List QV)(v:Value)(w:qW)(r:CG P w v xs):Calls Tryz.prog 77 #[v] w λe w'=>∃g,e=.returned (qG g xs.length xs.length)/\w'.heap[g]?=some (.cells (Cf xs).toArray 41 (0,0))/\w.heap.size<=g/\qY w w':=by
 obtain⟨ad,cap,rfl,s,i,f,d⟩:=r;have n:=Ns xs.length f;obtain⟨cs,b,c⟩:=d.cells BZ
 obtain⟨w1,k,l,m⟩:=xcD (P:=Tryz.prog) (w.alloc (.cells (madeCells #[J 0,J 0] (xs.length*2)) 41)) 52 52 3 41 2 w.heap.size xs.length xs.length ad cap (madeCells #[J 0,J 0] (xs.length*2)) 41 cs Tryz.underlying52 xrg (BH w _) b.1
  (λj v q=>by obtain⟨a,e,h⟩:=c j v q;exact⟨a,e,Bf (Bg _ _) h⟩) (size_madeCells _ _) (b.all BZ)
 have p:=m w.heap.size w (Bg _ _) (Bq _);have o:Hid (w1.heap[w.heap.size]?=some (.cells (Cf xs).toArray 41 (0,0))):=by show _=_;rw[← xff (E:=()) b];exact l
 clear l m d b c;go_enter Tryz.func77,Tryz.ntmps77;go_wp2;go_ret;exact⟨_,rfl,o.out,Bq _,p⟩
structure HRow (w:qW)(B:Nat)(s:Nat->Nat)(xs:List QO)(j:Nat):Prop where
 row:∃cur:Array Value,w.heap[B]?=some (.cells cur 84 (0,0))/\cur.size=xs.length*2
 obj:∀i x,i<j->xs[i]?=some x->w.cell? (O B (i*2))=some (J x.cls)/\w.cell? (O B (i*2+1))=some (qS (some (O (s i) 0)) x.slots.length x.slots.length)/\w.heap[s i]?=some (.cells (Cf x.slots).toArray 41 (0,0))/\B<s i/\x.slots.length*16<=140737488351232
 inc:∀i k,i<k->k<j->s i<s k
 lt:∀i,i<j->s i<w.heap.size
theorem HRow.later {w w':qW}{B:Nat}{s:Nat->Nat}{xs:List QO}{j:Nat}(h:HRow w B s xs j)(a:qY w w'):HRow w' B s xs j:=by
 obtain⟨⟨cur,c,f⟩,k,d,e⟩:=h;refine⟨⟨cur,by rw[a.block _ (By c)];exact c,f⟩,λi x b g=>?_,d,λi b=>Cd (e i b) a.size⟩;obtain⟨e1,e2,e3,e4,e5⟩:=k i x b g;exact⟨Bf a e1,Bf a e2,by rw[a.block _ (By e3)];exact e3,e4,e5⟩
theorem HRow.start {w:qW}(s:Nat->Nat)(xs:List QO)(c:Array Value)(b:c.size=xs.length*2):HRow (w.alloc (.cells c 84)) w.heap.size s xs 0:=
 ⟨⟨c,BH w _,b⟩,λi x a _=>by omega,λi k _ d=>by omega,λi a=>by omega⟩
theorem HRow.step {w:qW}{B:Nat}{s:Nat->Nat}{xs:List QO}{j g:Nat}{x:QO}(h:HRow w B s xs j)(n:xs[j]?=some x)(m:w.heap[g]?=some (.cells (Cf x.slots).toArray 41 (0,0)))(u:B<g)(o:∀i,i<j->s i<g)(a:x.slots.length*16<=140737488351232) :
  HRow (w.setCells B (j*2) [J x.cls,qG g x.slots.length x.slots.length]) B (λi=>if i=j then g else s i) xs (j+1):=by
 obtain⟨⟨cur,e,v⟩,z,p,r⟩:=h;have C:=Bz n;refine⟨NF _ _ w ⟨cur,e,v⟩,λi y c d=>?_,λi k c b=>?_,λi c=>?_⟩
 ·by_cases hij:i=j
  ·subst hij;rw[n] at d
   cases d;have f:=λk (b:k<2)=>World.cell?_setCells_in B [J x.cls,qG g x.slots.length x.slots.length] (i*2) w (λq t=>by rw[Bn e];simp at t ⊢;omega) k b;simp only[if_true];exact⟨f 0 (by omega),f 1 (by omega),by rw[Er (by omega)];exact m,u,a⟩
  obtain⟨e1,e2,e3,e4,e5⟩:=z i y (by omega) d;have l:=λk (b:k<2)=>World.cell?_setCells_out B [J x.cls,qG g x.slots.length x.slots.length] (j*2) w (O B (i*2+k)) (λ_ _=>Or.inl (by simp;omega));simp only[hij,if_false];exact⟨(l 0 (by omega)).trans e1,(l 1 (by omega)).trans e2,by rw[Er (by omega)];exact e3,e4,e5⟩
 ·by_cases hkj:k=j
  ·simp only[hkj,if_true,show i≠j by omega,if_false];exact o i (by omega)
  simp only[hkj,if_false,show i≠j by omega];exact p i k c (by omega)
 rw[Ks];by_cases hij:i=j
 ·simp only[hij,if_true];exact By m
 simp only[hij,if_false];exact r i (by omega)
theorem HRow.setLow {w:qW}{B d:Nat}{s:Nat->Nat}{xs:List QO}{j:Nat}(h:HRow w B s xs j)(m:d<B)(o:Nat)(v:Value):HRow (w.setCell (O d o) v) B s xs j:=by
 obtain⟨⟨cur,b,f⟩,l,c,e⟩:=h;refine⟨⟨cur,by rw[BS (by omega)];exact b,f⟩,λi x a g=>?_,c,λi a=>by rw[GT];exact e i a⟩;obtain⟨e1,e2,e3,e4,e5⟩:=l i x a g;have k:=λ(o':Nat)=>BV w (O d o) (O B o') v (by simp;omega);exact⟨(k _).trans e1,(k _).trans e2,by rw[BS (by omega)];exact e3,e4,e5⟩
theorem HRow.heap {w:qW}{g:Nat}{s:Nat->Nat}{xs:List QO}(h:HRow w g s xs xs.length)(a:xs.length*32<=140737488351232){T:Nat->Nat}(c:∀b,g<=b->b<w.heap.size->T b=2):HeapSt T w (qG g xs.length xs.length) g s xs:=by
 obtain⟨⟨cur,d,p⟩,n,f,o⟩:=h;refine⟨⟨_,rfl,Bq _,by unfold maxLen;omega⟩,a,By d,c g (Bq _) (By d),λi x k=>?_,λi j l m e=>?_⟩
 ·obtain⟨e1,e2,e3,e4,e5⟩:=n i x (Bz k) k;exact⟨e1,e2,e3,c _ (by omega) (By e3),by omega,e5⟩
 rcases Nat.lt_trichotomy i j with h | h | h
 ·have:=f i j h m;omega
 ·exact h
 have:=f j i h l;omega
theorem xlx {P:Nat->Prop}(D:List QO)(v:Value)(w:qW)(V:BP P w v D):Calls Tryz.prog 49 #[v] w λe w'=>∃g s,e=.returned (qG g D.length D.length)/\HRow w' g s D D.length/\w.heap.size<=g/\qY w w':=by
 obtain⟨ad,cap,rfl,Y,B,z,k⟩:=V;have Q:=xox D.length z;go_enter Tryz.func49,Tryz.ntmps49;go_wp2
 go_loopg [11] D.length (λg c wr=>∃j:Nat,j+g=D.length/\c=J j/\qY w wr/\(∃s,HRow wr w.heap.size s D j)/\w.heap.size<wr.heap.size)
 case atStart=>exact⟨0,by omega,rfl,Bg _ _,⟨λ_=>0,HRow.start _ _ _ (size_madeCells _ _)⟩,by simp⟩
 case round=>
  obtain⟨j,Z,rfl,d,⟨s,m⟩,hz⟩:=hrel;clear Q;by_cases hlt:j<D.length
  ·obtain⟨b,o,rfl,-,n,sv,p,t⟩:=k j D[j] (by simp[hlt]);simp only[Nat.add_zero] at n;have N:Hid (D[j]?=some D[j]):=by show _=_;simp[hlt]
   generalize D[j]=x at *;have u1:=Bf d n;have u2:=Bf d p;have F:=t.later BZ d;obtain⟨f,a,rfl,C,y,r,l⟩:=id F;clear n p t l;have T:(j:Int)<(D.length:Int):=by omega
   have U:(0:Int)<=(j:Int):=by omega
   go_wp2;have H:qY wr (wr.alloc (qC #[J x.cls,qS f x.slots.length a] 84)).drew:=(Bg _ _).drew;have R:=F.later BZ H;have L:=m.later H;have K:=d.trans (H.mono (by omega));have c1:(wr.alloc (qC #[J x.cls,qS f x.slots.length a] 84)).drew.cell? (O wr.heap.size 0)=some (J x.cls):=by simp
   have c2:(wr.alloc (qC #[J x.cls,qS f x.slots.length a] 84)).drew.cell? (O wr.heap.size 1)=some (qS f x.slots.length a):=by simp
   have M:(wr.alloc (qC #[J x.cls,qS f x.slots.length a] 84)).drew.heap.size=wr.heap.size+1:=by simp
   clear F u1 u2 k
   go_region_held3 (λw'=>w'.cell? (O wr.heap.size 0)=some (J x.cls)/\w'.cell? (O wr.heap.size 1)=some (qS f x.slots.length a)) (first | exact⟨c1,c2⟩ | exact⟨d1,d2⟩ | exact⟨(DX _ _ _ _ (by first | (simp;done) | (simp;omega))).trans ((DX _ _ _ _ (by first | (simp;done) | (simp;omega))).trans d1),(DX _ _ _ _ (by first | (simp;done) | (simp;omega))).trans ((DX _ _ _ _ (by first | (simp;done) | (simp;omega))).trans d2)⟩)
    (first | (go_at_call 77;refine (xj7 x.slots _ _ R).mono ?_;rintro e w1 ⟨g',rfl,u,q,h⟩;have G:=L.later h;obtain⟨cur,k1,k2⟩:=G.row;have f1:∀o,w1.frozen? (O w.heap.size o)=false:=λo=>(by simp[World.frozen?,k1]);have d1:=Bf h c1;have d2:=Bf h c2;have e1:w1.cell? (O w.heap.size (j*2))=some (cur[j*2]'(by omega)):=(by rw[Bn k1];simp);have e2:w1.cell? (O w.heap.size (j*2+1))=some (cur[j*2+1]'(by omega)):=(by rw[Bn k1];simp)))
   go_wp2;go_roundg (gk-1)
   case measure=>omega
   case rel=>
    have S:w.heap.size<w1.heap.size:=Cd (by omega) h.size;refine⟨j+1,by omega,by go_num,((K.trans (h.mono (by omega))).setCell (Bq _) _).setCell (Bq _) _,?_,by simp;omega⟩;have W:wr.heap.size+1<=g':=by rw[M] at q;exact q
    exact⟨_,G.step N.out u (by omega) (λi X=>by have:=m.lt i X;omega) r⟩
  obtain rfl:j=D.length:=by omega
  go_wp2;go_ret;exact⟨_,s,rfl,m,Bq _,d⟩
theorem xn9 {P:Nat->Prop}(X:QW)(cv hv:Value)(w:qW)(h1:BK P w cv X.cz)(h2:BP P w hv X.heap):Calls Tryz.prog 32 #[WV cv hv X.ez] w λe w'=>∃g gh s,e=.returned (WV (qG g X.cz.length X.cz.length) (qG gh X.heap.length X.heap.length) X.ez)/\OwnC w' g X.cz s X.cz.length/\
  (∃sh,HRow w' gh sh X.heap X.heap.length)/\s X.cz.length<=gh/\w.heap.size<=g/\qY w w':=by
 obtain⟨ad,cap,rfl,hl,N,K,m⟩:=h1;obtain⟨l,h,rfl,Q,H,M,n⟩:=id h2;have a2:=xjj X.cz.length K;go_enter Tryz.func32,Tryz.ntmps32;go_wp2;have hW:=DW w (qA ad cap l h X) (qO) (Obj.cells (madeCells #[Value.string { data:=#[] },J 0,J 0,qN] (X.cz.length*4)) 80);have W:=OwnC.start ((w.alloc (qA ad cap l h X)).alloc (qO)) X.cz (madeCells #[Value.string { data:=#[] },J 0,J 0,qN] (X.cz.length*4)) (size_madeCells _ _);rw[show ((w.alloc (qA ad cap l h X)).alloc (qO)).heap.size=w.heap.size+1+1 by simp] at W
 go_loopg [13] X.cz.length (λg c wr=>∃j:Nat,j+g=X.cz.length/\c=J j/\Below (w.heap.size+1+1) ((w.alloc (qA ad cap l h X)).alloc (qO)) wr/\∃s,OwnC wr (w.heap.size+1+1) X.cz s j)
 case atStart=>exact⟨0,by omega,rfl,(Br _ _).alloc (by simp) _,_,W⟩
 case round=>
  obtain⟨j,hj,rfl,f,s,S⟩:=hrel;clear a2 W;have T:qY w wr:=(BG _ _ _).trans (f.mono (by omega));have hz:w.heap.size+1+1<wr.heap.size:=by obtain⟨⟨cur,k,-⟩,-⟩:=S;exact By k
  by_cases hlt:j<X.cz.length
  ·obtain⟨b,o,rfl,-,p,r,q,L,sv,z,C⟩:=m j X.cz[j] (by simp[hlt]);have a0:Hid (X.cz[j]?=some X.cz[j]):=by show _=_;simp[hlt]
   generalize X.cz[j]=x at *;simp only[Nat.add_zero] at p;have u0:=Bf T p;have u1:=Bf T r;have u2:=Bf T q;have u4:=Bf T z;have V:=C.later xbj T;obtain⟨G,B,rfl,-,-,y,-⟩:=id V;clear p r q z C m;have a4:(j:Int)<(X.cz.length:Int):=by omega
   have a5:(0:Int)<=(j:Int):=by omega
   go_wp2_with fail;refine (xgy x.mz _ _ (V.later xbj (Bg _ _))).mono ?_;rintro e w1 ⟨g',rfl,hM,F,Z⟩;obtain⟨hc,hf⟩:=Hq Z;have h5:s j<=wr.heap.size:=S.2.2.2.1;replace S:=(S.later (Bg _ _)).later Z;have aa:wr.heap.size+1<=g':=by simpa using F
   have a9:wr.heap.size+1<=w1.heap.size:=by have:=Z.size;simpa using this
   replace S:=S.set h5 3 (qG g' x.mz.length x.mz.length);replace hM:=hM.set (d:=wr.heap.size) xbj (by omega) 3 (qG g' x.mz.length x.mz.length);have ab:(w1.setCell (O wr.heap.size 3) (qG g' x.mz.length x.mz.length)).heap.size=w1.heap.size:=by simp
   have d3:(w1.setCell (O wr.heap.size 3) (qG g' x.mz.length x.mz.length)).cell? (O wr.heap.size 3)=some (qG g' x.mz.length x.mz.length):=Kw (v:=qS G x.mz.length B) (by rw[hc _ _ (by simp)];simp) _;obtain⟨⟨cur,k1,k2⟩,k3⟩:=id S;have f1:∀o,(w1.setCell (O wr.heap.size 3) (qG g' x.mz.length x.mz.length)).frozen? (O (w.heap.size+1+1) o)=false:=λo=>(by simp only[World.frozen?,k1];simp)
   have f2:∀o,w1.frozen? (O (w.heap.size+1+1) o)=false:=λo=>(by rw[← World.frozen?_setCell (a:=(O wr.heap.size 3)) (v:=(qG g' x.mz.length x.mz.length))];exact f1 o)
   have ex:∀o,o<X.cz.length*4->∃u,w1.cell? (O (w.heap.size+1+1) o)=some u:=λo ho=>by
    have:=BV w1 (O wr.heap.size 3) (O (w.heap.size+1+1) o) (qG g' x.mz.length x.mz.length) (by simp;omega);rw[Bn k1] at this;exact⟨cur[o]'(by omega),by rw[← this];simp⟩
   obtain⟨y0,e0⟩:=ex (j*4) (by omega);obtain⟨y1,e1⟩:=ex (j*4+1) (by omega);obtain⟨y2,e2⟩:=ex (j*4+2) (by omega);obtain⟨y3,e3⟩:=ex (j*4+3) (by omega);have a7:¬ wr.heap.size=w.heap.size+1+1:=by omega
   have a3:¬ w.heap.size+1+1=wr.heap.size:=by omega
   clear k1 k2 k3;go_wp2;go_roundg (gk-1)
   case measure=>omega
   case rel=>
    obtain⟨s',D⟩:=S.step a0.out L (by omega) hM y;refine⟨j+1,by omega,by go_num,?_,s',D⟩;exact (((((f.trans (((Bg _ _).trans (Z.mono (by simp))).mono (by omega))).setCell (by simp;omega) _).setCell (by simp) _).setCell (by simp) _).setCell (by simp) _).setCell (by simp) _
  obtain rfl:j=X.cz.length:=by omega
  have q1:wr.drew.cell? (O w.heap.size 1)=some (qS l X.heap.length h):=by
   show wr.cell? _=_;rw[f.cell (by simp;omega)];simp
  have q2:wr.drew.cell? (O w.heap.size 2)=some (J X.ez):=by
   show wr.cell? _=_;rw[f.cell (by simp;omega)];simp
  have r0:wr.drew.cell? (O (w.heap.size+1) 0)=some (qN):=by
   show wr.cell? _=_;rw[f.cell (by simp)];simp
  have r1:wr.drew.cell? (O (w.heap.size+1) 1)=some (qN):=by
   show wr.cell? _=_;rw[f.cell (by simp)];simp
  have r2:wr.drew.cell? (O (w.heap.size+1) 2)=some (J 0):=by
   show wr.cell? _=_;rw[f.cell (by simp)];simp
  have rf:∀o,wr.drew.frozen? (O (w.heap.size+1) o)=false:=λo=>by
   show wr.frozen? _=_;rw[f.frozen (by simp)];simp
  have hH:=h2.later BB T.drew;have U:=S.later (Br _ _).drew;have a6:s X.cz.length<=wr.drew.heap.size:=U.2.2.2.1;have a8:w.heap.size+1+1<wr.drew.heap.size:=hz;have a1:=T.drew;clear S hW m n f T h2;go_wp2_with fail
  go_region_held3 (λw'=>w'.cell? (O w.heap.size 1)=some (qS l X.heap.length h)/\w'.cell? (O w.heap.size 2)=some (J X.ez)) (first | exact⟨q1,q2⟩ | exact⟨d1,d2⟩ | exact⟨(DX _ _ _ _ (by first | (simp;done) | (simp;omega))).trans ((DX _ _ _ _ (by first | (simp;done) | (simp;omega))).trans ((DX _ _ _ _ (by first | (simp;done) | (simp;omega))).trans d1)),(DX _ _ _ _ (by first | (simp;done) | (simp;omega))).trans ((DX _ _ _ _ (by first | (simp;done) | (simp;omega))).trans ((DX _ _ _ _ (by first | (simp;done) | (simp;omega))).trans d2))⟩)
   (first | (go_at_call 49;refine (xlx X.heap _ _ hH).mono ?_;rintro e w1 ⟨gh,sh,rfl,t,R,i⟩;have d1:=Bf i q1;have d2:=Bf i q2;have t0:=Bf i r0;have t1:=Bf i r1;have t2:=Bf i r2;have tf:∀o,w1.frozen? (O (w.heap.size+1) o)=false:=λo=>(i.frozen (by simp;omega)).trans (rf o)))
  go_wp2;have Y:=U.later i;refine Bt (v:=WV (qS (some (O (w.heap.size+1+1) 0)) X.cz.length X.cz.length) (qG gh X.heap.length X.heap.length) X.ez) ?_ rfl ⟨_,gh,s,rfl,?_,⟨sh,?_⟩,by omega,by omega,?_⟩
  ·simp[results,Tryz.results32,go_sem,t0,t1,t2]
  ·exact ((Y.setLow (by omega) _ _).setLow (by omega) _ _).setLow (by omega) _ _
  ·exact ((t.setLow (by omega) _ _).setLow (by omega) _ _).setLow (by omega) _ _
  exact (((Bh a1 i).setCell (by simp) _).setCell (by simp) _).setCell (by simp) _
end Go.Proofs.YtbafokihegegiaaGreatDoor
