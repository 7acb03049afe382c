/- A part. -/
import Derived.Test.YtbafokihegegiaaGreatDoorU4
namespace Go.Proofs.YtbafokihegegiaaGreatDoor
open Go.ChangeShapes Go.WideShapes Go.ChangeAt Go.RowKit
set_option linter.unusedSimpArgs false
set_option linter.unusedVariables false
set_option maxHeartbeats 8000000
set_option maxRecDepth 8000
section
variable {σ:Type} {p:Mp σ} {T T':Nat->Nat} {w w':World} {mb:Nat} {m m':Mc σ} {calls calls':Int} {hv:Value} {g:Nat} {s:Nat->Nat} {K fb:Nat} {f:Fr} {cv av tv sv kv:Value}
theorem HeapSt.slots {xs:List QO}(h:HeapSt T w hv g s xs){i:Nat}{x:QO}(r:xs[i]?=some x){vs:List QV}(k:Kp (λt=>t=1) (λb=>if b=s i then 1 else 0) w w')(z:w'.heap[s i]?=some (.cells (Cf vs).toArray 41 (0,0)))(m:vs.length=x.slots.length):HeapSt T w' hv g s (xs.set i ⟨x.cls,vs⟩):=by
 have p:=Bz r;obtain⟨e1,e2,e3,e4,e5,e6⟩:=h.obj i x r;have n:∀b,b<w.heap.size->b≠s i->w'.heap[b]?=w.heap[b]?:=λb l f=>k.blk b l (by simp[f])
 have d:∀o u,w.cell? (O g o)=some u->w'.cell? (O g o)=some u:=λo u q=>by
  unfold World.cell? at q ⊢;rw[n g h.there (Ne.symm e5)];exact q
 refine⟨by simpa using h.form,by simpa using h.len,Cd h.there k.size,h.tg,λj y c=>?_,λa b v l=>h.inj a b (by simpa using v) (by simpa using l)⟩;by_cases hj:j=i
 ·subst hj;rw[List.getElem?_set_self p] at c
  cases c;exact⟨d _ _ e1,by rw[m];exact d _ _ e2,z,e4,e5,by rw[m];exact e6⟩
 rw[List.getElem?_set_ne (by omega)] at c;obtain⟨d1,d2,d3,d4,d5,d6⟩:=h.obj j y c;exact⟨d _ _ d1,d _ _ d2,by rw[n _ (By d3) λe=>hj (h.inj j i (Bz c) p e)];exact d3,d4,d5,d6⟩
theorem xhb (h:MacAt p T w mb m calls hv g s)(v:QV)(n:Int)(x:QV):Calls Tryz.prog 274 #[qP mb,VV v,J n,VV x] w λe w'=>e=.returned (.tuple #[])/\(∃T',Ext T T' w/\MacAt p T' w' mb { m with heap:=FF m.heap v n x } calls hv g s)/\Kp (λt=>t=2) T w w':=by
 have Y:=By h.box;have z:=BG w (qH v) (qH x);have B:=(h.tagged0 4).later z;have L:=EW T w 4;have G:∀b,w.heap.size<=b->Dw T w 4 b=4:=λb hb=>Gr hb;have b0:((w.alloc (qH v)).alloc (qH x)).cell? (O w.heap.size 0)=some (J v.k):=Bf (Bg _ _) (Bp _ _ _ _ rfl 0);have b1:((w.alloc (qH v)).alloc (qH x)).cell? (O w.heap.size 1)=some (J v.n):=Bf (Bg _ _) (Bp _ _ _ _ rfl 1);have x0:((w.alloc (qH v)).alloc (qH x)).cell? (O (w.heap.size+1) 0)=some (J x.k):=Bp _ _ _ _ (by simp) 0;have x1:((w.alloc (qH v)).alloc (qH x)).cell? (O (w.heap.size+1) 1)=some (J x.n):=Bp _ _ _ _ (by simp) 1;clear h;generalize Dw T w 4=T1 at *;go_enter Tryz.func274,Tryz.ntmps274;go_upto_region 1 with (fail);generalize ((w.alloc (qH v)).alloc (qH x))=W at *;have c1:=B.c1;obtain⟨cap,rfl,u,i⟩:=B.heap.form;unfold maxLen at i;have KW:Hid (Kp (λt=>t=2) T w W):=Kp.of_below z;have Z:=hid B
 cases y:KN m.heap.length v with
 | false=>
  have R:Hid (FF m.heap v n x=m.heap):=by show _=_;unfold FF;rw[xiw y]
  have K:Hid ((∃T',Ext T T' w/\MacAt p T' W.drew mb { m with heap:=FF m.heap v n x } calls (qG g m.heap.length cap) g s)/\Kp (λt=>t=2) T w W.drew):=⟨⟨T1,L,by rw[R.out];exact B.later (Br _ _).drew⟩,KW.out.drew⟩
  clear B z;unfold KN at y;simp only[decide_eq_false_iff_not] at y;by_cases D:v.k=4
  ·have C:(v.k == 4)=true:=by simpa using D
   by_cases hn:v.n<0
   ·have M:decide (0<=v.n)=false:=by simpa using hn
    clear y
    go_region
    go_wp2;exact bodyPost_end (v:=.tuple #[]) (by simp[results,Tryz.results274,go_sem]) rfl ⟨rfl,K.out⟩
   have M:decide (0<=v.n)=true:=by simpa using hn
   have hl:decide (v.n<(m.heap.length:Int))=false:=by simp;omega
   clear y
   go_region
   go_wp2;exact bodyPost_end (v:=.tuple #[]) (by simp[results,Tryz.results274,go_sem]) rfl ⟨rfl,K.out⟩
  have C:(v.k == 4)=false:=by simpa using D
  clear y
  go_region
  go_wp2;exact bodyPost_end (v:=.tuple #[]) (by simp[results,Tryz.results274,go_sem]) rfl ⟨rfl,K.out⟩
 | true=>
  obtain⟨j,o,N,q,c,f⟩:=xle y;have D:v.k=4:=by unfold KN at y;simp only[decide_eq_true_eq] at y;exact y.1
  have C:(v.k == 4)=true:=by simpa using D
  have R:Hid (FF m.heap v n x=m.heap.set j ⟨o.cls,EQ o.slots n x⟩):=by show _=_;unfold FF;rw[f];simp[N]
  obtain⟨e1,e2,e3,e4,e5,e6⟩:=B.heap.obj j o c;have HJ:=hid c;rw[N] at b1;have U:(j:Int)<(m.heap.length:Int):=by omega
  have V:(0:Int)<=(j:Int):=by omega
  have n1:¬ mb=s j:=λe=>by have:=B.tag;rw[e,e4] at this;omega
  have n2:¬ w.heap.size=s j:=λe=>by have:=G w.heap.size (Bq _);rw[e,e4] at this;omega
  have n3:¬ w.heap.size+1=s j:=λe=>by have:=G (w.heap.size+1) (by omega);rw[e,e4] at this;omega
  have n4:¬ g=s j:=Ne.symm e5;have Q:Hid (W.drew.drew.heap[s j]?=some (.cells (Cf o.slots).toArray 41 (0,0))):=e3;have a:W.drew.drew.cell? (O mb 1)=some (qG g m.heap.length cap)/\W.drew.drew.cell? (O w.heap.size 1)=some (J (j:Int))/\W.drew.drew.cell? (O (w.heap.size+1) 0)=some (J x.k)/\W.drew.drew.cell? (O (w.heap.size+1) 1)=some (J x.n)/\W.drew.drew.cell? (O g (j*2+1))=some (qS (some (O (s j) 0)) o.slots.length o.slots.length):=⟨c1,b1,x0,x1,e2⟩;have X:=hid e4;clear y N f z D e1 e3 e4 e5 e6 B c
  go_region
  go_wp2;clear b0 b1 x0 x1 c1 e2;have H:Calls Tryz.prog 273 #[qS (some (O (s j) 0)) o.slots.length o.slots.length,J n,VV x] W.drew.drew _:=xf1 o.slots (s j) n x _ Q.out
  go_region_held3 (λw'=>w'.cell? (O mb 1)=some (qG g m.heap.length cap)/\w'.cell? (O w.heap.size 1)=some (J (j:Int))/\w'.cell? (O (w.heap.size+1) 0)=some (J x.k)/\w'.cell? (O (w.heap.size+1) 1)=some (J x.n)/\w'.cell? (O g (j*2+1))=some (qS (some (O (s j) 0)) o.slots.length o.slots.length))
   (first | with_reducible exact a | with_reducible exact S)
   (first | (go_at_call 273;refine H.mono ?_;rintro e w1 ⟨rfl,l,r,d⟩;have k1:=d (λt=>t=1) (λb=>if b=s j then 1 else 0) (by simp);have S:=And.intro (k1.cell a.1 (by simp[n1])) (And.intro (k1.cell a.2.1 (by simp[n2])) (And.intro (k1.cell a.2.2.1 (by simp[n3])) (And.intro (k1.cell a.2.2.2.1 (by simp[n3])) (k1.cell a.2.2.2.2 (by simp[n4])))))))
  go_wp2;have kT:=d (λt=>t=2) T1 X.out;refine bodyPost_end (v:=.tuple #[]) (by simp[results,Tryz.results274,go_sem]) rfl ⟨rfl,⟨T1,L,?_⟩,?_⟩
  ·have F:=Z.out.later (w':=W.drew.drew) ((Br _ _).drew).drew;refine⟨kT.held F.box (by rw[F.tag];omega),F.tag,?_,F.cls.fx Bw (.refl _ _) kT (by omega)⟩;rw[R.out];exact F.heap.slots HJ.out k1 l (Mj _ _ _)
  exact KW.out.trans L (((Kp.refl _ _ _).drew.drew).trans (.refl _ _) kT)
end
section
variable {σ:Type} {p:Mp σ} {T T':Nat->Nat} {w w':World} {mb:Nat} {m m':Mc σ} {calls calls':Int} {hv:Value} {g:Nat} {s:Nat->Nat} {K fb:Nat} {f:Fr} {cv av tv sv kv:Value}
theorem xpY (h:FrAt T K w fb f cv av tv sv kv)(a:Int)(x:QI):Calls Tryz.prog 282 #[qP fb,J a,IV x] w λe w'=>e=.returned (SV (f.site a x))/\qY w w':=by
 have n:=By h.box;have d:=BG w (qE x) (qC #[J 0,qZ ⟨#[]⟩,J 0] 105);have i:=h.later d;have x3:((w.alloc (qE x)).alloc (qC #[J 0,qZ ⟨#[]⟩,J 0] 105)).cell? (O w.heap.size 3)=some (J x.c):=Bf (Bg _ _) (Bp _ _ _ _ rfl 3);have r0:((w.alloc (qE x)).alloc (qC #[J 0,qZ ⟨#[]⟩,J 0] 105)).cell? (O (w.heap.size+1) 0)=some (J 0):=Bp _ _ _ _ (by simp) 0;have r1:((w.alloc (qE x)).alloc (qC #[J 0,qZ ⟨#[]⟩,J 0] 105)).cell? (O (w.heap.size+1) 1)=some (qZ ⟨#[]⟩):=Bp _ _ _ _ (by simp) 1;have r2:((w.alloc (qE x)).alloc (qC #[J 0,qZ ⟨#[]⟩,J 0] 105)).cell? (O (w.heap.size+1) 2)=some (J 0):=Bp _ _ _ _ (by simp) 2;have rf:∀o,((w.alloc (qE x)).alloc (qC #[J 0,qZ ⟨#[]⟩,J 0] 105)).frozen? (O (w.heap.size+1) o)=false:=λo=>BN (cur:=#[J 0,qZ ⟨#[]⟩,J 0]) (t:=105) (by have:=BH (w.alloc (qE x)) (qC #[J 0,qZ ⟨#[]⟩,J 0] 105);simpa using this) o;clear h;go_enter Tryz.func282,Tryz.ntmps282;go_upto_region 1 with (fail);generalize ((w.alloc (qE x)).alloc (qC #[J 0,qZ ⟨#[]⟩,J 0] 105))=W at *;have c0:W.cell? (O fb 0)=some (J f.cls):=by rw[Bn i.box];rfl
 have c1:W.cell? (O fb 1)=some (qZ f.meth.name):=by rw[Bn i.box];rfl
 have c13:W.cell? (O fb 13)=some (.bool f.fast):=by rw[Bn i.box];rfl
 have m:¬ fb=w.heap.size+1:=by omega
 have k:¬ w.heap.size+1=fb:=by omega
 have l:=hid d;clear i d
 cases g:f.fast with
 | false=>
  have j:Hid (f.site a x=⟨f.cls,f.meth.name,a⟩):=by show _=_;unfold Fr.site;rw[g];rfl
  rw[g] at c13;go_wp2
  go_region
  all_goals (
   go_wp2;refine Bt (v:=SV ⟨f.cls,f.meth.name,a⟩) ?_ rfl ⟨by rw[j.out],(((l.out.setCell (by simp) _).setCell (by simp) _).setCell (by simp) _).drew⟩;simp[results,Tryz.results282,go_sem,r0,r1,r2])
 | true=>
  have j:Hid (f.site a x=⟨f.cls,f.meth.name,x.c⟩):=by show _=_;unfold Fr.site;rw[g];rfl
  rw[g] at c13;go_wp2
  go_region
  all_goals (
   go_wp2;refine Bt (v:=SV ⟨f.cls,f.meth.name,x.c⟩) ?_ rfl ⟨by rw[j.out],(((l.out.setCell (by simp) _).setCell (by simp) _).setCell (by simp) _).drew⟩;simp[results,Tryz.results282,go_sem,r0,r1,r2])
abbrev Lp (c:Int)(nm:ByteArray)(e t:Int)(kv:Value):Value:=.agg #[J c,qZ nm,J e,J t,kv]
theorem xqc (h:w.heap[fb]?=some (FB f cv av tv sv kv))(a b:Value)(t:List QV)(c:List QI):((w.setCell (O fb 11) b).setCell (O fb 9) a).heap[fb]?=some (FB { f with temps:=t,code:=c } cv av a sv b):=by
 rw[BW (BW h _)];rfl
theorem xn7 (h:w.heap[fb]?=some (FB f cv av tv sv kv))(a b:Value)(t:List QV)(c:List QI):(((w.setCell (O fb 11) b).setCell (O fb 9) a).setCell (O fb 13) (.bool true)).heap[fb]?=some (FB { f with temps:=t,code:=c,fast:=true } cv av a sv b):=by
 rw[BW (BW (BW h _) _)];rfl
structure FrNew (T:Nat->Nat)(K:Nat)(w:qW)(fb:Nat)(f:Fr)(cv av:Value):Prop where
 box:w.heap[fb]?=some (FB f cv av (qN) (qN) (qN))
 tag:T fb=K
 args:CG (Fx T w) w av f.args
 meth:Cm (Fx T w) w cv f.meth.code
 pos:5<=K
 stack:f.stack=[]
theorem xfN (n:Int):(Cv n).length<=40:=by unfold Cv;simp;omega
theorem FrNew.begun {w1 w2:qW}{tb:Nat}{t:List QV}{c:List QI}{fl:Bool}(h:FrNew T K w fb f cv av)(d:qY w w1)(a:w1.heap[tb]?=some (.cells (Cf t).toArray 41 (0,0)))(o:t.length<=40)(l:w.heap.size<=tb)(k:Kp (λt=>t=1) (λb=>if b=fb then 1 else 0) w1 w2)(q:w2.heap[fb]?=some (FB { f with temps:=t,code:=c,fast:=fl } cv av (qG tb t.length t.length) (qN) kv))(p:Cm (Fx T w) w kv c) :
  ∃T',Ext T T' w/\FrAt T' K w2 fb { f with temps:=t,code:=c,fast:=fl } cv av (qG tb t.length t.length) (qN) kv/\Kp (λt=>t=K) T w w2:=by
 have j:=By h.box;have n:=h.pos;have e:Ext T (GV T tb (K+1)) w:=xgj l
 have kw:Kp (λt=>t=K) T w w2:=⟨k.os.trans d.os,k.tape.trans d.tape,k.output.trans d.output,BX d.size k.size,λb i m=>by
  rw[k.blk b (Cd i d.size) (by have:b≠fb:=λe=>m (by rw[e];exact h.tag);simp[this]),d.block b i]⟩
 refine⟨GV T tb (K+1),e,⟨q,by rw[e _ j];exact h.tag,h.args.fx BZ e kw (by omega),⟨tb,rfl,?_,xfg _ _ _,o⟩,?_,(λg l=>by cases l),?_,p.fx BR e kw (by omega),h.meth.fx BR e kw (by omega),n⟩,kw⟩
 ·exact k.held a (by
   have:tb≠fb:=by omega
   simp[this])
 ·show ownsAt w2 0 41 2 _ f.stack.length (Cf f.stack);rw[h.stack];exact⟨rfl,Or.inl ⟨rfl,rfl⟩⟩
 show f.stack.length<=_;rw[h.stack];simp
theorem xkt (h:FrNew T K w fb f cv av)(r:f.fast=false)(qv:Value)(qc:Int)(qn:ByteArray)(qe qt:Int):Calls Tryz.prog 231 #[qP fb,Lp qc qn qe qt qv,.bool false] w λe w'=>e=.returned (.tuple #[])/\∃T' tv sv kv,Ext T T' w/\FrAt T' K w' fb { f with temps:=Cv f.meth.temps,code:=f.meth.code,fast:=false } cv av tv sv kv/\Kp (λt=>t=K) T w w':=by
 have u:=By h.box;have d:qY w (w.alloc (qC #[J qc,qZ qn,J qe,J qt,qv] 187)).drew:=(Bg _ _).drew;have o:=Bs h.box d;have g:(w.alloc (qC #[J qc,qZ qn,J qe,J qt,qv] 187)).drew.cell? (O fb 5)=some cv/\(w.alloc (qC #[J qc,qZ qn,J qe,J qt,qv] 187)).drew.cell? (O fb 3)=some (J f.meth.temps):=⟨by rw[Bn o];rfl,by rw[Bn o];rfl⟩
 obtain⟨a,cap,rfl,-⟩:=id h.meth;have H:=hid h;have y:=hid o;have s:=hid d;have p:Hid (∀t c,({ f with temps:=t,code:=c }:Fr)={ f with temps:=t,code:=c,fast:=false }):=λt c=>by rw[r]
 clear h o d r;go_enter Tryz.func231,Tryz.ntmps231;go_upto_region 1 with (fail);generalize (w.alloc (qC #[J qc,qZ qn,J qe,J qt,qv] 187))=W at *;go_wp2
 go_region_held3 (λw'=>w'.cell? (O fb 5)=some (qS a f.meth.code.length cap)/\w'.cell? (O fb 3)=some (J f.meth.temps))
  (first | with_reducible exact g | with_reducible exact l | exact⟨(DX _ _ _ _ (by simp)).trans l.1,(DX _ _ _ _ (by simp)).trans l.2⟩ | exact⟨(DX _ _ _ _ (by simp)).trans ((DX _ _ _ _ (by simp)).trans l.1),(DX _ _ _ _ (by simp)).trans ((DX _ _ _ _ (by simp)).trans l.2)⟩)
  (first | (go_at_call 256;refine (xhm f.meth.temps _).mono ?_;rintro e w1 ⟨tb,rfl,j,i,d⟩;have l:=And.intro (Bf d g.1) (Bf d g.2);have m:=Bs y.out d;have df:=BN m;have d11:w1.cell? (O fb 11)=some (qN):=(by rw[Bn m];rfl);have d9:w1.cell? (O fb 9)=some (qN):=(by rw[Bn m];rfl);have q:=hid m;clear m))
 all_goals (
  go_wp2;have k:Kp (λt=>t=1) (λb=>if b=fb then 1 else 0) w1 ((w1.setCell (O fb 11) (qS a f.meth.code.length cap)).setCell (O fb 9) (qG tb (Cv f.meth.temps).length (Cv f.meth.temps).length)):=((Kp.refl _ _ _).set (λ_=>by simp) _ _).set (λ_=>by simp) _ _;have n:=xqc q.out (qG tb (Cv f.meth.temps).length (Cv f.meth.temps).length) (qS a f.meth.code.length cap) (Cv f.meth.temps) f.meth.code;rw[p.out (Cv f.meth.temps) f.meth.code] at n;obtain⟨T',q1,q2,q3⟩:=H.out.begun (Bh s.out d) j (xfN _) (BX s.out.size i) k n H.out.meth;exact bodyPost_end (v:=.tuple #[]) (by simp[results,Tryz.results231,go_sem]) rfl ⟨rfl,T',_,_,_,q1,q2,q3⟩)
theorem xl9 (h:FrNew T K w fb f cv av)(qv:Value)(qc:Int)(qn:ByteArray)(qe qt:Int)(code:List QI)(m:Cm (Fx T w) w qv code):Calls Tryz.prog 231 #[qP fb,Lp qc qn qe qt qv,.bool true] w λe w'=>e=.returned (.tuple #[])/\∃T' tv sv kv,Ext T T' w/\FrAt T' K w' fb { f with temps:=Cv qt,code:=code,fast:=true } cv av tv sv kv/\Kp (λt=>t=K) T w w':=by
 have u:=By h.box;have c:qY w (w.alloc (qC #[J qc,qZ qn,J qe,J qt,qv] 187)).drew:=(Bg _ _).drew;have r:=Bs h.box c;have d:(w.alloc (qC #[J qc,qZ qn,J qe,J qt,qv] 187)).drew.cell? (O w.heap.size 4)=some qv/\(w.alloc (qC #[J qc,qZ qn,J qe,J qt,qv] 187)).drew.cell? (O w.heap.size 3)=some (J qt):=⟨Bp w #[J qc,qZ qn,J qe,J qt,qv] 187 _ rfl 4,Bp w #[J qc,qZ qn,J qe,J qt,qv] 187 _ rfl 3⟩;have H:=hid h;have y:=hid r;have q:=hid c;have z:=hid m;have s:¬ w.heap.size=fb:=by omega
 have p:¬ fb=w.heap.size:=by omega
 obtain⟨a,cap,rfl,-⟩:=id m;clear h r c m;go_enter Tryz.func231,Tryz.ntmps231;go_upto_region 1 with (fail);generalize (w.alloc (qC #[J qc,qZ qn,J qe,J qt,qS a code.length cap] 187))=W at *;go_wp2
 go_region_held3 (λw'=>w'.cell? (O w.heap.size 4)=some (qS a code.length cap)/\w'.cell? (O w.heap.size 3)=some (J qt))
  (first | with_reducible exact d | with_reducible exact j | exact⟨(BV _ _ _ _ (by simp;omega)).trans j.1,(BV _ _ _ _ (by simp;omega)).trans j.2⟩ | exact⟨(BV _ _ _ _ (by simp;omega)).trans ((BV _ _ _ _ (by simp;omega)).trans j.1),(BV _ _ _ _ (by simp;omega)).trans ((BV _ _ _ _ (by simp;omega)).trans j.2)⟩ | exact⟨(BV _ _ _ _ (by simp;omega)).trans ((BV _ _ _ _ (by simp;omega)).trans ((BV _ _ _ _ (by simp;omega)).trans j.1)),(BV _ _ _ _ (by simp;omega)).trans ((BV _ _ _ _ (by simp;omega)).trans ((BV _ _ _ _ (by simp;omega)).trans j.2))⟩)
  (first | (go_at_call 256;refine (xhm qt _).mono ?_;rintro e w1 ⟨tb,rfl,i,g,c⟩;have j:=And.intro (Bf c d.1) (Bf c d.2);have l:=Bs y.out c;have df:=BN l;have d11:w1.cell? (O fb 11)=some (qN):=(by rw[Bn l];rfl);have d9:w1.cell? (O fb 9)=some (qN):=(by rw[Bn l];rfl);have d13:w1.cell? (O fb 13)=some (.bool f.fast):=(by rw[Bn l];rfl);have o:=hid l;clear l))
 all_goals (
  go_wp2;have k:Kp (λt=>t=1) (λb=>if b=fb then 1 else 0) w1 (((w1.setCell (O fb 11) (qS a code.length cap)).setCell (O fb 9) (qG tb (Cv qt).length (Cv qt).length)).setCell (O fb 13) (.bool true)):=(((Kp.refl _ _ _).set (λ_=>by simp) _ _).set (λ_=>by simp) _ _).set (λ_=>by simp) _ _;have n:=xn7 o.out (qG tb (Cv qt).length (Cv qt).length) (qS a code.length cap) (Cv qt) code;obtain⟨T',q1,q2,q3⟩:=H.out.begun (Bh q.out c) i (xfN _) (BX q.out.size g) k n z.out;exact Bt (v:=.tuple #[]) (by simp[results,Tryz.results231,go_sem]) rfl ⟨rfl,T',_,_,_,q1,q2,q3⟩)
end
section
variable {σ:Type} {p:Mp σ} {T T':Nat->Nat} {w w':World} {mb:Nat} {m m':Mc σ} {calls calls':Int} {hv:Value} {g:Nat} {s:Nat->Nat} {K fb:Nat} {f:Fr} {cv av tv sv kv:Value}
structure PuR (w:qW)(x:QI)(w':qW):Prop where
 bel:qY w w'
 x0:w'.cell? (O w.heap.size 0)=some (J x.op)
 x1:w'.cell? (O w.heap.size 1)=some (J x.a)
 r0:w'.cell? (O (w.heap.size+1) 0)=some (J 0)
 r1:w'.cell? (O (w.heap.size+1) 1)=some (J 0)
 rf:∀o,w'.frozen? (O (w.heap.size+1) o)=false
 sz:w.heap.size+2<=w'.heap.size
theorem PuR.later {w:qW}{x:QI}{w' w'':qW}(h:PuR w x w')(a:qY w' w''):PuR w x w'':=
 ⟨Bh h.bel a,Bf a h.x0,Bf a h.x1,Bf a h.r0,Bf a h.r1,λo=>(a.frozen (p:=(O (w.heap.size+1) o)) (by have:=h.sz;simp only;omega)).trans (h.rf o),BX h.sz a.size⟩
theorem xrf (w:qW)(x:QI):PuR w x ((w.alloc (qE x)).alloc (qQ)):=by
 refine⟨BG _ _ _,Bf (Bg _ _) (Bp _ _ _ _ rfl 0),Bf (Bg _ _) (Bp _ _ _ _ rfl 1),Bp _ _ _ _ (by simp) 0,Bp _ _ _ _ (by simp) 1,λo=>BN (cur:=#[J 0,J 0]) (t:=41) ?_ o,by simp⟩;have:=BH (w.alloc (qE x)) (qQ);simpa using this
theorem FrAt.c (h:FrAt T K w fb f cv av tv sv kv):w.cell? (O fb 6)=some (J f.self.k)/\w.cell? (O fb 7)=some (J f.self.n)/\w.cell? (O fb 8)=some av/\w.cell? (O fb 9)=some tv:=by
 refine⟨?_,?_,?_,?_⟩<;>(rw[Bn h.box];rfl)
theorem FrAt.tempsV (h:FrAt T K w fb f cv av tv sv kv):CG (λ_=>True) w tv f.temps:=by
 obtain⟨tb,rfl,a,-,b⟩:=h.temps;exact xlU a trivial (by omega)
theorem xmj (h:MacAt p T w mb m calls hv g s)(H:FrAt T K w fb f cv av tv sv kv)(x:QI):Calls Tryz.prog 271 #[qP mb,qP fb,IV x] w λe w'=>e=.returned (.tuple #[VV ((Cl m.heap f x).getD BC),.bool (Cl m.heap f x).isSome])/\qY w w':=by
 have X:=By H.box;have V:=By h.box;have z:=xrf w x;have C:=h.later z.bel;have t:=H.later z.bel;clear h H;go_enter Tryz.func271,Tryz.ntmps271;go_upto_region 1 with (fail);generalize ((w.alloc (qE x)).alloc (qQ))=W at *;obtain⟨f6,f7,f8,f9⟩:=t.c;have m1:=C.c1;have R:=t.args;have U:=t.tempsV;have S:=C.heap.heap;obtain⟨-,x0,x1,r0,r1,rf,sz⟩:=id z;obtain⟨aa,ca,rfl,-⟩:=id R;obtain⟨at',ct,rfl,-⟩:=id U;obtain⟨ah,ch,rfl,-⟩:=id S;have nf:¬ fb=w.heap.size+1:=by omega
 have nf':¬ w.heap.size+1=fb:=by omega
 have nm:¬ mb=w.heap.size+1:=by omega
 have nm':¬ w.heap.size+1=mb:=by omega
 have r:=hid z;clear t C z;by_cases h1:x.op=1
 ·have q:Hid (Cl m.heap f x=some f.self):=by show _=_;unfold Cl;rw[if_pos h1]
  have F:(x.op == 1)=true:=by simpa using h1
  clear h1;go_wp2;refine Bt (v:=.tuple #[VV f.self,.bool true]) ?_ rfl ⟨by rw[q.out];rfl,((r.out.bel.setCell (by simp) _).setCell (by simp) _)⟩;simp[results,Tryz.results271,go_sem,r0,r1]
 have F:(x.op == 1)=false:=by simpa using h1
 by_cases h2:x.op=2
 ·have q:Hid (Cl m.heap f x=some (CR f.args x.a)):=by show _=_;unfold Cl;rw[if_neg h1];rw[if_pos h2]
  have D:(x.op == 2)=true:=by simpa using h2
  clear h1 h2;go_wp2;have i:(λw'=>w'.cell? (O fb 8)=some (qS aa f.args.length ca)/\w'.cell? (O w.heap.size 1)=some (J x.a)) W.drew:=⟨f8,x1⟩
  have o:Calls Tryz.prog 255 _ W.drew _:=NB f.args _ x.a W.drew (R.later BZ (Br _ _).drew);obtain⟨u,y⟩:∃u,u=(CR f.args x.a):=⟨_,rfl⟩;rw[← y] at o q;clear y
  go_region_held3 (λw'=>w'.cell? (O fb 8)=some (qS aa f.args.length ca)/\w'.cell? (O w.heap.size 1)=some (J x.a))
   (first | with_reducible exact i | with_reducible exact l | exact⟨(BV _ _ _ _ (by simp;try omega)).trans ((BV _ _ _ _ (by simp;try omega)).trans l.1),(BV _ _ _ _ (by simp;try omega)).trans ((BV _ _ _ _ (by simp;try omega)).trans l.2)⟩)
   (first | (go_at_call 255;refine o.mono ?_;rintro e w1 ⟨rfl,d⟩;have l:=And.intro (Bf d i.1) (Bf d i.2);have j:=r.out.later ((Br _ _).drew.trans d);clear x0 x1 r0 r1 rf sz;obtain⟨-,x0,x1,r0,r1,rf,sz⟩:=id j))
  all_goals (
   go_wp2;refine Bt (v:=.tuple #[VV u,.bool true]) ?_ rfl ⟨by rw[q.out];rfl,((j.bel.setCell (by simp) _).setCell (by simp) _)⟩;simp[results,Tryz.results271,go_sem,r0,r1])
 have D:(x.op == 2)=false:=by simpa using h2
 by_cases h3:x.op=3
 ·have q:Hid (Cl m.heap f x=some (CR f.temps x.a)):=by show _=_;unfold Cl;rw[if_neg h1];rw[if_neg h2];rw[if_pos h3]
  have G:(x.op == 3)=true:=by simpa using h3
  clear h1 h2 h3;go_wp2;have i:(λw'=>w'.cell? (O fb 9)=some (qS at' f.temps.length ct)/\w'.cell? (O w.heap.size 1)=some (J x.a)) W.drew:=⟨f9,x1⟩
  have o:Calls Tryz.prog 255 _ W.drew _:=NB f.temps _ x.a W.drew (U.later BZ (Br _ _).drew);obtain⟨u,y⟩:∃u,u=(CR f.temps x.a):=⟨_,rfl⟩;rw[← y] at o q;clear y
  go_region_held3 (λw'=>w'.cell? (O fb 9)=some (qS at' f.temps.length ct)/\w'.cell? (O w.heap.size 1)=some (J x.a))
   (first | with_reducible exact i | with_reducible exact l | exact⟨(BV _ _ _ _ (by simp;try omega)).trans ((BV _ _ _ _ (by simp;try omega)).trans l.1),(BV _ _ _ _ (by simp;try omega)).trans ((BV _ _ _ _ (by simp;try omega)).trans l.2)⟩)
   (first | (go_at_call 255;refine o.mono ?_;rintro e w1 ⟨rfl,d⟩;have l:=And.intro (Bf d i.1) (Bf d i.2);have j:=r.out.later ((Br _ _).drew.trans d);clear x0 x1 r0 r1 rf sz;obtain⟨-,x0,x1,r0,r1,rf,sz⟩:=id j))
  all_goals (
   go_wp2;refine Bt (v:=.tuple #[VV u,.bool true]) ?_ rfl ⟨by rw[q.out];rfl,((j.bel.setCell (by simp) _).setCell (by simp) _)⟩;simp[results,Tryz.results271,go_sem,r0,r1])
 have G:(x.op == 3)=false:=by simpa using h3
 by_cases h4:x.op=4
 ·have q:Hid (Cl m.heap f x=some (Gt m.heap f.self x.a)):=by show _=_;unfold Cl;rw[if_neg h1];rw[if_neg h2];rw[if_neg h3];rw[if_pos h4]
  have M:(x.op == 4)=true:=by simpa using h4
  clear h1 h2 h3 h4;go_wp2;have i:(λw'=>w'.cell? (O mb 1)=some (qS ah m.heap.length ch)/\w'.cell? (O fb 6)=some (J f.self.k)/\w'.cell? (O fb 7)=some (J f.self.n)/\w'.cell? (O w.heap.size 1)=some (J x.a)) W.drew:=⟨m1,f6,f7,x1⟩
  have o:Calls Tryz.prog 280 _ W.drew _:=xj2 m.heap _ f.self x.a W.drew (S.later BB (Br _ _).drew);obtain⟨u,y⟩:∃u,u=(Gt m.heap f.self x.a):=⟨_,rfl⟩;rw[← y] at o q;clear y
  go_region_held3 (λw'=>w'.cell? (O mb 1)=some (qS ah m.heap.length ch)/\w'.cell? (O fb 6)=some (J f.self.k)/\w'.cell? (O fb 7)=some (J f.self.n)/\w'.cell? (O w.heap.size 1)=some (J x.a))
   (first | with_reducible exact i | with_reducible exact l | exact⟨(BV _ _ _ _ (by simp;try omega)).trans ((BV _ _ _ _ (by simp;try omega)).trans l.1),(BV _ _ _ _ (by simp;try omega)).trans ((BV _ _ _ _ (by simp;try omega)).trans l.2.1),(BV _ _ _ _ (by simp;try omega)).trans ((BV _ _ _ _ (by simp;try omega)).trans l.2.2.1),(BV _ _ _ _ (by simp;try omega)).trans ((BV _ _ _ _ (by simp;try omega)).trans l.2.2.2)⟩)
   (first | (go_at_call 280;refine o.mono ?_;rintro e w1 ⟨rfl,d⟩;have l:=And.intro (Bf d i.1) (And.intro (Bf d i.2.1) (And.intro (Bf d i.2.2.1) (Bf d i.2.2.2)));have j:=r.out.later ((Br _ _).drew.trans d);clear x0 x1 r0 r1 rf sz;obtain⟨-,x0,x1,r0,r1,rf,sz⟩:=id j))
  all_goals (
   go_wp2;refine Bt (v:=.tuple #[VV u,.bool true]) ?_ rfl ⟨by rw[q.out];rfl,((j.bel.setCell (by simp) _).setCell (by simp) _)⟩;simp[results,Tryz.results271,go_sem,r0,r1])
 have M:(x.op == 4)=false:=by simpa using h4
 by_cases h5:x.op=5
 ·have q:Hid (Cl m.heap f x=some ⟨3,x.a⟩):=by show _=_;unfold Cl;rw[if_neg h1];rw[if_neg h2];rw[if_neg h3];rw[if_neg h4];rw[if_pos h5]
  have N:(x.op == 5)=true:=by simpa using h5
  clear h1 h2 h3 h4 h5;go_wp2;refine Bt (v:=.tuple #[VV ⟨3,x.a⟩,.bool true]) ?_ rfl ⟨by rw[q.out];rfl,((r.out.bel.setCell (by simp) _).setCell (by simp) _)⟩;simp[results,Tryz.results271,go_sem,r0,r1]
 have N:(x.op == 5)=false:=by simpa using h5
 by_cases h6:x.op=6
 ·have q:Hid (Cl m.heap f x=some BC):=by show _=_;unfold Cl;rw[if_neg h1];rw[if_neg h2];rw[if_neg h3];rw[if_neg h4];rw[if_neg h5];rw[if_pos h6]
  have L:(x.op == 6)=true:=by simpa using h6
  clear h1 h2 h3 h4 h5 h6;go_wp2;refine Bt (v:=.tuple #[VV BC,.bool true]) ?_ rfl ⟨by rw[q.out];rfl,((r.out.bel.setCell (by simp) _).setCell (by simp) _)⟩;simp[results,Tryz.results271,go_sem,r0,r1]
 have L:(x.op == 6)=false:=by simpa using h6
 by_cases h7:x.op=7
 ·have q:Hid (Cl m.heap f x=some ⟨1,0⟩):=by show _=_;unfold Cl;rw[if_neg h1];rw[if_neg h2];rw[if_neg h3];rw[if_neg h4];rw[if_neg h5];rw[if_neg h6];rw[if_pos h7]
  have B:(x.op == 7)=true:=by simpa using h7
  clear h1 h2 h3 h4 h5 h6 h7;go_wp2_with fail;refine (NZ false _).mono ?_;rintro e w1 ⟨rfl,d⟩;have j:=r.out.later d;clear x0 x1 r0 r1 rf sz;obtain⟨-,x0,x1,r0,r1,rf,sz⟩:=id j;go_wp2;refine Bt (v:=.tuple #[VV ⟨1,0⟩,.bool true]) ?_ rfl ⟨by rw[q.out];rfl,((j.bel.setCell (by simp) _).setCell (by simp) _)⟩;simp[results,Tryz.results271,go_sem,r0,r1]
 have B:(x.op == 7)=false:=by simpa using h7
 by_cases h8:x.op=8
 ·have q:Hid (Cl m.heap f x=some ⟨2,0⟩):=by show _=_;unfold Cl;rw[if_neg h1];rw[if_neg h2];rw[if_neg h3];rw[if_neg h4];rw[if_neg h5];rw[if_neg h6];rw[if_neg h7];rw[if_pos h8]
  have Q:(x.op == 8)=true:=by simpa using h8
  clear h1 h2 h3 h4 h5 h6 h7 h8;go_wp2_with fail;refine (NZ true _).mono ?_;rintro e w1 ⟨rfl,d⟩;have j:=r.out.later d;clear x0 x1 r0 r1 rf sz;obtain⟨-,x0,x1,r0,r1,rf,sz⟩:=id j;go_wp2;refine Bt (v:=.tuple #[VV ⟨2,0⟩,.bool true]) ?_ rfl ⟨by rw[q.out];rfl,((j.bel.setCell (by simp) _).setCell (by simp) _)⟩;simp[results,Tryz.results271,go_sem,r0,r1]
 have Q:(x.op == 8)=false:=by simpa using h8
 have q:Hid (Cl m.heap f x=none):=by show _=_;unfold Cl;rw[if_neg h1];rw[if_neg h2];rw[if_neg h3];rw[if_neg h4];rw[if_neg h5];rw[if_neg h6];rw[if_neg h7];rw[if_neg h8]
 clear h1 h2 h3 h4 h5 h6 h7 h8;go_wp2;refine Bt (v:=.tuple #[VV BC,.bool false]) ?_ rfl ⟨by rw[q.out];rfl,((r.out.bel.setCell (by simp) _).setCell (by simp) _)⟩;simp[results,Tryz.results271,go_sem,r0,r1]
end
section
variable {σ:Type} {p:Mp σ} {T T':Nat->Nat} {w w':World} {mb:Nat} {m m':Mc σ} {calls calls':Int} {hv:Value} {g:Nat} {s:Nat->Nat} {K fb:Nat} {f:Fr} {cv av tv sv kv:Value}
theorem xqI (v:QV)(w:qW):(Instr.field 41 (VV v) 0).run Tryz.prog w=.ok (J v.k) w:=by
 obtain⟨i0,d,c,a,b⟩:=Gb xsm;simp[Instr.field,run_underlying Tryz.underlying41,part,sizeOf,typeInfo,d,a,asAgg]
theorem xmf (h:MacAt p T w mb m calls hv g s)(z:FrAt T K w fb f cv av tv sv kv)(a b:Int)(F:0<=m.tz/\m.tz<=300):Calls Tryz.prog 278 #[qP mb,qP fb,J a,J b] w λe w'=>e=.returned (J (Dt m f a b).2.2)/\MacAt p T w' mb (Dt m f a b).1 calls hv g s/\((Dt m f a b).2.2=0->∃sv',FrAt T K w' fb (Dt m f a b).2.1 cv av tv sv' kv)/\Kp (λt=>t=1\/t=K) T w w':=by
 have G:=z.pos;have D:=xqI;go_enter Tryz.func278,Tryz.ntmps278;go_wp2_with fail;refine (Ng z).mono ?_;rintro e w1 ⟨rfl,⟨n,c⟩,d⟩;have o:=h.keep (.refl _ _) d (by omega) (by omega) (by omega);have C:=hid d;clear h z d;by_cases h2:f.top.k=2
 ·have r:Hid (Dt m f a b=(m,f.pop,0)):=by show _=_;unfold Dt;rw[if_pos h2]
  have y:(f.top.k == 2)=true:=by simpa using h2
  have q:=hid o;have v:=hid c;clear o c;go_wp2;go_ret;rw[r.out];exact⟨rfl,q.out,λ_=>⟨_,v.out⟩,C.out.mono λt h=>Or.inr h⟩
 have y:(f.top.k == 2)=false:=by simpa using h2
 by_cases h1:f.top.k=1
 ·have r:Hid (Dt m f a b=Cr m f.pop a b):=by show _=_;unfold Dt;rw[if_neg h2,if_pos h1]
  have B:(f.top.k == 1)=true:=by simpa using h1
  go_wp2_with fail;refine (xlX o c a b F).mono ?_;rintro e w2 ⟨rfl,j,i,l⟩;have q:=hid j;have v:=hid i;have u:=hid l;clear o c j i l;go_wp2;go_ret;rw[r.out];exact⟨rfl,q.out,λ_=>⟨_,v.out⟩,(C.out.mono λt h=>Or.inr h).trans (.refl _ _) u.out⟩
 have B:(f.top.k == 1)=false:=by simpa using h1
 have r:Hid (Dt m f a b=(m,f,11)):=by show _=_;unfold Dt;rw[if_neg h2,if_neg h1]
 have q:=hid o;clear o c;go_wp2;go_ret;rw[r.out];exact⟨rfl,q.out,λh=>absurd h (by simp),C.out.mono λt h=>Or.inr h⟩
theorem xgp {ops:Array Oper}{o:Oper}{a:Act}{w:qW}{K:Act->World->Prop}{Q:Exit->Act->World->Prop}{E:Prop}(m:o.guard=none)(s x:Operand)
  (r:o.op=Op.call { callee:=Callee.builtin Builtin.append,args:=#[s,x],argTypes:=#[24,24] }) (g n:Nat) (C:a.eval s=qG g n n) (Bb:Nat) (M:a.eval x=qG Bb 1 1)
  (cur:Array Value) (e:w.heap[g]?=some (.cells cur 84 (0,0))) (f:cur.size=n*2) (x0 x1:Value) (F:w.cell? (O Bb 0)=some x0) (D:w.cell? (O Bb 1)=some x1) (o0:x0.oneCell'=true) (o1:x1.oneCell'=true) (R:n<1000)
  (G:∀g' cap c w',n+1<=cap->cap<=maxLen->w'.heap[g']?=some (.cells c 84 (0,0))->c.toList.take ((n+1)*2)=cur.toList++[x0,x1]->w.heap.size<=g'->qY w w'->K (a.put o.dst (qG g' (n+1) cap)) w') :
  if Region.wanted o (yielded ops a.tmps)=true then Oper.wp Tryz.prog o a w K Q else E:=by
 obtain⟨i0,L,y,q,i⟩:=Gb xql
 refine step_append_grows m s x 24 r 84 i0 _ 2 32 Tryz.underlying24 L y q i rfl (by decide) (some (O g 0)) n n cur.toList C (λh=>by cases h) (by simpa using f)
  (λb B j u z=>by cases B;rw[Addr.add_lit,Nat.zero_add,Bn e];simpa using z) (O Bb 0) 1 1 [x0,x1] M rfl
  (λj u z=>by
   rw[Addr.add_lit,Nat.zero_add]
   match j,z with
   | 0,z=>simp at z;rw[← z];exact F
   | 1,z=>simp at z;rw[← z];exact D)
  (λu z=>by simp at z;rcases z with h | h<;>rw[h]<;>assumption) (by omega) (by unfold maxLen;omega) (by omega) ?_
 intro v' w' d p;obtain⟨-,h | ⟨g',cap,c,rfl,B,N,t,l,-,v⟩⟩:=d
 ·omega
 exact G g' cap c w' t l N v B ((Br _ _).grown p (Bq _) (λk H=>by cases H))
structure NwS (w:qW)(k:Nat)(w':qW):Prop where
 bel:qY w w'
 c0:∃u,w'.cell? (O w.heap.size 0)=some u
 c1:∃u,w'.cell? (O w.heap.size 1)=some u
 fr:∀o,w'.frozen? (O w.heap.size o)=false
 vals:w'.heap[w.heap.size+1]?=some (.cells (Cf (List.replicate k BC)).toArray 41 (0,0))
theorem NwS.later {w w' w1:qW}{k:Nat}(h:NwS w k w')(b:qY w' w1):NwS w k w1:=
 have c:=h.c0;have d:=h.c1
 ⟨Bh h.bel b,c.elim λu a=>⟨u,Bf b a⟩,d.elim λu a=>⟨u,Bf b a⟩,λo=>(b.frozen (p:=(O w.heap.size o)) (c.elim λu a=>World.block_lt_of_cell? w' (O w.heap.size 0) a)).trans (h.fr o),Bs h.vals b⟩
theorem xeW {w:qW}{a b:Addr}{x:Value}(h:∃u,w.cell? a=some u):∃u,(w.setCell b x).cell? a=some u:=by
 obtain⟨u,h⟩:=h;obtain⟨v,hv⟩:=cell?_setCell_some (w:=w) (p:=b) (x:=x) (q:=a) (v:=u) h;exact⟨v,hv⟩
theorem NwS.set {w w':qW}{k:Nat}(h:NwS w k w')(o:Nat)(u:Value):NwS w k (w'.setCell (O w.heap.size o) u):=
 ⟨h.bel.setCell (Bq _) _,xeW h.c0,xeW h.c1,λo'=>by rw[World.frozen?_setCell];exact h.fr o',by rw[BS (by omega)];exact h.vals⟩
theorem xr9 {w w':qW}{k b:Nat}{x y:Value}(a:w.heap.size<b)(h:w'.cell? (O b 0)=some x/\w'.cell? (O b 1)=some y/\NwS w k w')(o o':Nat)(u u':Value) :
  ((w'.setCell (O w.heap.size o) u).setCell (O w.heap.size o') u').cell? (O b 0)=some x/\((w'.setCell (O w.heap.size o) u).setCell (O w.heap.size o') u').cell? (O b 1)=some y/\NwS w k ((w'.setCell (O w.heap.size o) u).setCell (O w.heap.size o') u'):=
 ⟨(BV _ _ _ _ (by simp;omega)).trans ((BV _ _ _ _ (by simp;omega)).trans h.1),(BV _ _ _ _ (by simp;omega)).trans ((BV _ _ _ _ (by simp;omega)).trans h.2.1),(h.2.2.set _ _).set _ _⟩
theorem xrs {w w' w1:qW}{k:Nat}{a b:Addr}{x y:Value}(h:w'.cell? a=some x/\w'.cell? b=some y/\NwS w k w')(c:qY w' w1):w1.cell? a=some x/\w1.cell? b=some y/\NwS w k w1:=⟨Bf c h.1,Bf c h.2.1,h.2.2.later c⟩
theorem xq4 {w1 wx w2:qW}{hs:List QO}{cur f:Array Value}{c:Int}{k g g' cap vb lo:Nat}{s:Nat->Nat}(y:HRow w1 g s hs hs.length)(a:w1.heap[g]?=some (.cells cur 84 (0,0)))(l:cur.size=hs.length*2)(v:qY w1 wx)(m:qY wx w2)(hv:w2.heap[vb]?=some (.cells (Cf (List.replicate k BC)).toArray 41 (0,0)))
  (G:hs.length+1<=cap) (L:cap<=maxLen) (F:w2.heap[g']?=some (.cells f 84 (0,0))) (o:f.toList.take ((hs.length+1)*2)=cur.toList++[J c,qG vb k k]) (p:wx.heap.size<=g') (q:vb<g) (N:hs.length<1000) (Q:k<=2147483647) (n:lo<=vb) {T:Nat->Nat} (B:∀b,lo<=b->T b=2) :
  HeapSt T w2 (qG g' (hs.length+1) cap) g' (λi=>if i=hs.length then vb else s i) (hs++[⟨c,List.replicate k BC⟩]):=by
 have M:=Bh v m;have H:=By a;have K:=v.size
 have r:∀j,j<(hs.length+1)*2->w2.cell? (O g' j)=(cur.toList++[J c,qG vb k k])[j]?:=λj z=>by
  rw[Bn F,← o,List.getElem?_take,if_pos z];simp
 have u:cur.toList.length=hs.length*2:=by simpa using l
 have C:∀i x,hs[i]?=some x->s i<w1.heap.size:=λi x v=>y.lt i (Bz v);refine⟨⟨cap,by simp,by simpa using G,L⟩,by simp;omega,By F,B _ (by omega),λi x t=>?_,λi j t z e=>?_⟩
 ·by_cases hil:i<hs.length
  ·rw[List.getElem?_append_left hil] at t;obtain⟨e1,e2,e3,e4,e5⟩:=y.obj i x hil t;simp only[show i≠hs.length by omega,if_false]
   have d:∀j,j<hs.length*2->w2.cell? (O g' j)=w1.cell? (O g j):=λj z=>by
    rw[r j (by omega),List.getElem?_append_left (by omega),Bn a];simp
   have:=C i x t;exact⟨by rw[d _ (by omega)];exact e1,by rw[d _ (by omega)];exact e2,Bs e3 M,B _ (by omega),by omega,e5⟩
  have D:i=hs.length:=by
   have:=Bz t;simp at this;omega
  subst D;simp at t;subst t;simp only[if_true];refine⟨?_,?_,hv,B _ n,by omega,by simp;omega⟩
  ·rw[r _ (by omega),List.getElem?_append_right (by omega),u];simp
  rw[r _ (by omega),List.getElem?_append_right (by omega),u,show hs.length*2+1-hs.length*2=1 by omega];simp
 simp at t z
 have big:∀i,i<hs.length->vb<s i:=λi t=>by
  have v:hs[i]?=some hs[i]:=by simp[t]
  have:=(y.obj i _ t v).2.2.2.1;omega
 by_cases a1:i=hs.length
 ·by_cases a2:j=hs.length
  ·omega
  rw[if_pos a1,if_neg a2] at e;have:=big j (by omega);omega
 by_cases a2:j=hs.length
 ·rw[if_neg a1,if_pos a2] at e;have:=big i (by omega);omega
 rw[if_neg a1,if_neg a2] at e;rcases Nat.lt_trichotomy i j with h | h | h
 ·have:=y.inc i j h (by omega);omega
 ·exact h
 have:=y.inc j i h (by omega);omega
def xop (w:qW)(hs:List QO)(c:Int)(k:Nat)(e:Ending)(w':qW):Prop:=qY w w'/\
  ((60<=hs.length\/2147483647<k)->e=.returned (.tuple #[qN,VV BC,J 15]))/\
  (¬ (60<=hs.length\/2147483647<k)->∃g s cap,e=.returned (.tuple #[qG g (hs.length+1) cap,VV ⟨4,hs.length⟩,J 0])/\∀T:Nat->Nat,T w.heap.size=4->(∀b,w.heap.size+1<=b->T b=2)->HeapSt T w' (qG g (hs.length+1) cap) g s (hs++[⟨c,List.replicate k BC⟩]))
theorem xl0 {P:Nat->Prop}(y:List QO)(hv:Value)(c:Int)(k:Nat)(w:qW)(h:BP P w hv y):Calls Tryz.prog 82 #[hv,J c,J k] w λe w'=>xop w y c k e w':=by
 obtain⟨a,cap,rfl,-⟩:=id h;by_cases h6:60<=y.length
 ·have S:(60:Int)<=(y.length:Int):=by omega
  have F:Hid (60<=y.length\/2147483647<k):=Or.inl h6;go_enter Tryz.func82,Tryz.ntmps82;go_wp2;refine Bt (v:=.tuple #[qN,VV BC,J 15]) ?_ rfl ⟨Bg _ _,λ_=>rfl,λM=>absurd F.out M⟩;simp[results,Tryz.results82,go_sem]
 have S:¬ ((60:Int)<=(y.length:Int)):=by omega
 by_cases h7:2147483647<k
 ·have K:(2147483647:Int)<(k:Int):=by omega
  have F:Hid (60<=y.length\/2147483647<k):=Or.inr h7;go_enter Tryz.func82,Tryz.ntmps82;go_wp2;refine Bt (v:=.tuple #[qN,VV BC,J 15]) ?_ rfl ⟨Bg _ _,λ_=>rfl,λM=>absurd F.out M⟩;simp[results,Tryz.results82,go_sem]
 have K:¬ ((2147483647:Int)<(k:Int)):=by omega
 have R:=Ns k (by omega);have F:Hid (¬ (60<=y.length\/2147483647<k)):=by show ¬ _;omega
 have X:¬ ((k:Int)<0):=by omega
 have H:qY w (((w.alloc (qQ)).alloc (.cells (madeCells #[J 0,J 0] (k*2)) 41)).alloc (qC #[J c,qG (w.heap.size+1) k k] 84)).drew:=(DW _ _ _ _).drew;have V:=h.later BB H;have N:(((w.alloc (qQ)).alloc (.cells (madeCells #[J 0,J 0] (k*2)) 41)).alloc (qC #[J c,qG (w.heap.size+1) k k] 84)).drew.heap.size=w.heap.size+3:=by simp
 have L:(((w.alloc (qQ)).alloc (.cells (madeCells #[J 0,J 0] (k*2)) 41)).alloc (qC #[J c,qG (w.heap.size+1) k k] 84)).drew.cell? (O (w.heap.size+1+1) 0)=some (J c)/\(((w.alloc (qQ)).alloc (.cells (madeCells #[J 0,J 0] (k*2)) 41)).alloc (qC #[J c,qG (w.heap.size+1) k k] 84)).drew.cell? (O (w.heap.size+1+1) 1)=some (qG (w.heap.size+1) k k)/\NwS w k (((w.alloc (qQ)).alloc (.cells (madeCells #[J 0,J 0] (k*2)) 41)).alloc (qC #[J c,qG (w.heap.size+1) k k] 84)).drew:=by
  refine⟨Bp _ _ _ _ (by simp) 0,Bp _ _ _ _ (by simp) 1,H,⟨_,Bf (BG _ _ _).drew (Bp w #[J 0,J 0] 41 _ rfl 0)⟩,⟨_,Bf (BG _ _ _).drew (Bp w #[J 0,J 0] 41 _ rfl 1)⟩,λo=>((BG _ _ _).drew.frozen (p:=(O w.heap.size o)) (by simp)).trans (BN (BH w (qQ)) o),?_⟩;rw[← xpB];refine Bs (w:=(w.alloc (qQ)).alloc (.cells (madeCells #[J 0,J 0] (k*2)) 41)) ?_ (Bg _ _).drew;have:=BH (w.alloc (qQ)) (.cells (madeCells #[J 0,J 0] (k*2)) 41);simpa using this
 clear h;go_enter Tryz.func82,Tryz.ntmps82;go_wp2;generalize (((w.alloc (qQ)).alloc (.cells (madeCells #[J 0,J 0] (k*2)) 41)).alloc (qC #[J c,qG (w.heap.size+1) k k] 84))=W0 at *;clear R;have z:W0.heap.size=w.heap.size+3:=N
 go_region_held3 (λw'=>w'.cell? (O (w.heap.size+1+1) 0)=some (J c)/\w'.cell? (O (w.heap.size+1+1) 1)=some (qS (some { block:=w.heap.size+1,off:=0 }) k k)/\NwS w k w')
  (first | with_reducible exact L | with_reducible exact B | exact xr9 (by omega) B _ _ _ _ | exact xrs (‹_/\_/\NwS w k _›) (Bg _ _))
  (first
   | (refine xgp rfl (.tmp 24) (.tmp 26) rfl g y.length rfl _ rfl cur (by first | exact d | exact ((Bg _ _).block _ (By d)).trans d) f (J c) (qS (some { block:=w.heap.size+1,off:=0 }) k k) (by first | (rw[Bp _ _ _ _ rfl];rfl) | exact Bf j (Bp W0 _ 84 _ z 0)) (by first | (rw[Bp _ _ _ _ rfl];rfl) | exact Bf j (Bp W0 _ 84 _ z 1)) rfl rfl C ?_;intro g' cap' s w2 n1 n2 q r n l;have B:=xrs (‹_/\_/\NwS w k _›) l;have G:Hid (∀T:Nat->Nat,(∀b,w.heap.size+1<=b->T b=2)->HeapSt T w2 (qG g' (y.length+1) cap') g' _ (y++[⟨c,List.replicate k BC⟩])):=(λT W=>xq4 xew d f (by first | exact Br _ _ | exact Bg _ _) l B.2.2.vals n1 n2 q r n (by omega) C (by omega) (Bq _) W);obtain⟨-,⟨v0,u0⟩,⟨v1,u1⟩,u,-⟩:=id B.2.2)
   | (go_at_call 49;refine (xlx y _ _ (V.later BB (by first | exact Br _ _ | exact Bg _ _))).mono ?_;rintro e w1 ⟨g,sg,rfl,xew,m,j⟩;obtain⟨cur,d,f⟩:=xew.row;have C:y.length<1000:=(by omega);have U:w.heap.size+3<=g:=(by simp at m;omega);have B:=xrs (‹_/\_/\NwS w k _›) j))
 all_goals go_wp2
 all_goals (
  refine Bt (v:=.tuple #[qG g' (y.length+1) cap',VV ⟨4,y.length⟩,J 0]) ?_ rfl ⟨((B.2.2.set _ _).set _ _).bel,λh=>absurd h F.out,λ_=>⟨g',(λi=>if i=y.length then w.heap.size+1 else sg i),cap',rfl,λT D Q=>?_⟩⟩
  ·simp[results,Tryz.results82,go_sem,u0,u1]
  ·exact (G.out T Q).keep (.refl _ _) (((Kp.refl (λt=>t=4) _ _).set (λ_=>D) _ _).set (λ_=>D) _ _) (by omega))
structure MkS (w:qW)(mb:Nat)(v0 v1:Value)(ep:Int)(w':qW):Prop where
 bel:qY w w'
 m0:w'.cell? (O mb 0)=some v0
 m1:w'.cell? (O mb 1)=some v1
 m2:w'.cell? (O mb 2)=some (J ep)
 lt:mb<w.heap.size
theorem MkS.later {w:qW}{mb:Nat}{v0 v1:Value}{ep:Int}{w' w'':qW}(h:MkS w mb v0 v1 ep w')(a:qY w' w''):MkS w mb v0 v1 ep w'':=⟨Bh h.bel a,Bf a h.m0,Bf a h.m1,Bf a h.m2,h.lt⟩
theorem MkS.set {w:qW}{mb:Nat}{v0 v1:Value}{ep:Int}{w':qW}(h:MkS w mb v0 v1 ep w'){b:Nat}(c:w.heap.size<=b)(o:Nat)(u:Value):MkS w mb v0 v1 ep (w'.setCell (O b o) u):=
 have a:=h.lt
 ⟨h.bel.setCell c _,(BV _ _ _ _ (by simp;omega)).trans h.m0,(BV _ _ _ _ (by simp;omega)).trans h.m1,(BV _ _ _ _ (by simp;omega)).trans h.m2,a⟩
theorem MkS.al {w:qW}{mb:Nat}{v0 v1:Value}{ep:Int}{w':qW}(h:MkS w mb v0 v1 ep w'):w'.cell? (O mb 0)=some v0/\w'.cell? (O mb 1)=some v1/\w'.cell? (O mb 2)=some (J ep)/\MkS w mb v0 v1 ep w':=⟨h.m0,h.m1,h.m2,h⟩
theorem xqu (w:qW)(x:Obj):w.heap.size<(w.alloc x).drew.heap.size:=by simp
theorem xsD (T:Nat->Nat)(w:qW){W' w2:qW}{hv:Value}{g:Nat}{s:Nat->Nat}{xs:List QO}(h:∀T:Nat->Nat,T W'.heap.size=4->(∀b,W'.heap.size+1<=b->T b=2)->HeapSt T w2 hv g s xs):Hid (∃T2,(w.heap.size<=W'.heap.size->Ext T T2 w)/\HeapSt T2 w2 hv g s xs/\∀b,w.heap.size<=b->b<=W'.heap.size->T2 b=4):=by
 refine⟨λb=>if b<w.heap.size/\b<W'.heap.size then T b else if b<=W'.heap.size then 4 else 2,λc b a=>?_,h _ ?_ λb a=>?_,λb e d=>?_⟩
 ·simp only[if_pos (And.intro a (Cd a c))]
 ·simp
 ·simp only[if_neg (show ¬ (b<w.heap.size/\b<W'.heap.size) by omega),if_neg (show ¬ b<=W'.heap.size by omega)]
 simp only[if_neg (show ¬ (b<w.heap.size/\b<W'.heap.size) by omega),if_pos d]
theorem xmr {b:Value}{g2:Nat}{s2:Nat->Nat}{a:List QO}{w2 U:qW}{T2:Nat->Nat}{v:QV}(n:MacAt p T w mb m calls hv g s)(o:FrAt T K w fb f cv av tv sv kv)(j:Ext T T2 w)(r:HeapSt T2 w2 b g2 s2 a)(q:U.heap[mb]?=some (MB p { m with heap:=a } calls b))(kU:Kp (λt=>t=1\/t=4) T2 w2 U)(kw:Kp (λt=>t=1) T w U)(c:f.stack.length<1000000000) :
  Calls Tryz.prog 272 #[qP fb,VV v] U λe w'=>e=.returned (.tuple #[])/\(∃T',Ext T T' w/\(∃hv' g' s',MacAt p T' w' mb { m with heap:=a } calls hv' g' s')/\(((0:Int)=0)->∃sv',FrAt T' K w' fb (f.push v) cv av tv sv' kv))/\Kp (λt=>t=1\/t=K\/t=K+2) T w w':=by
 have u:=o.pos;have k:MacAt p T2 U mb { m with heap:=a } calls b g2 s2:=⟨q,by rw[j _ (By n.box)];exact n.tag,r.keep (.refl _ _) kU (by omega),n.cls.fx Bw j kw (by omega)⟩
 have l:=o.keep j kw (by omega) (by omega) (by omega) (by omega);refine (PX l v c).mono ?_;rintro e w4 ⟨rfl,⟨T4,i,e4,d⟩,k4⟩;have ew:Ext T T4 w:=j.trans kw.size e4;refine⟨rfl,⟨T4,ew,⟨_,_,_,k.keep e4 k4 (by omega) (by omega) (by omega)⟩,λ_=>⟨_,d⟩⟩,?_⟩;exact (kw.mono λt h=>Or.inl h).trans j (k4.mono λt h=>Or.inr h)
def xps (p:Mp σ)(T:Nat->Nat)(w:qW)(mb:Nat)(m:Mc σ)(calls:Int)(K fb:Nat)(f:Fr)(cv av tv kv:Value)(r:Mc σ × Fr × Int)(e:Ending)(w':qW):Prop:=
 e=.returned (J r.2.2)/\(∃T',Ext T T' w/\(∃hv' g' s',MacAt p T' w' mb r.1 calls hv' g' s')/\(r.2.2=0->∃sv',FrAt T' K w' fb r.2.1 cv av tv sv' kv))/\Kp (λt=>t=1\/t=K\/t=K+2) T w w'
theorem xhA (h:MacAt p T w mb m calls hv g s)(hF:FrAt T K w fb f cv av tv sv kv)(c:Int)(o:Cs p.E.cz c=DY p.E.cz c/\0<=DY p.E.cz c)(j:f.stack.length<1000000000):Calls Tryz.prog 275 #[qP mb,qP fb,J c] w λe w'=>xps p T w mb m calls K fb f cv av tv kv (DT p.E m f c) e w':=by
 have hp:=hF.pos;have Z:=By h.box;have aj:=By hF.box;obtain⟨k,hk⟩:∃k:Nat,DY p.E.cz c=(k:Int):=⟨(DY p.E.cz c).toNat,by omega⟩
 have HE:Hid (DT p.E m f c=if 60<=m.heap.length\/2147483647<k then (m,f,15) else ({ m with heap:=m.heap++[⟨c,List.replicate k BC⟩] },f.push ⟨4,m.heap.length⟩,0)):=by
  show _=_;unfold DT;rw[hk];simp only[Int.toNat_natCast];by_cases hc:60<=m.heap.length\/(2147483647:Int)<(k:Int)
  ·rw[if_pos hc,if_pos (by omega)]
  rw[if_neg hc,if_neg (by omega)]
 have hW:Cs p.E.cz c=(k:Int):=by rw[o.1,hk]
 clear hk o;have hd:qY w w.drew:=(Br _ _).drew;have S:=h;have a5:=hF;have hH:=S.heap.heap.mono (Q:=λ_=>True) BB λ_ _=>trivial;have hC:=S.cls.mono (Q:=λ_=>True) Bw λ_ _=>trivial;have M:MkS w mb p.cv hv p.ep w.drew:=⟨hd,S.c0,S.c1,S.c2,Z⟩;have U:=hid S;have HF:=hid a5;obtain⟨ac,cc,y,-⟩:=id hC;obtain⟨ah,ch,rfl,-⟩:=id hH
 have F:∀w':qW,qY w w'->Calls Tryz.prog 83 #[WV p.cv (qS ah m.heap.length ch) p.ep,J c] w' λe w''=>e=.returned (J (k:Int))/\qY w' w'':=λw' hb=>by
  have:=xfD ⟨p.E.cz,m.heap,p.ep⟩ c _ _ w' (hC.later Bw hb) (hH.later BB hb);rw[hW] at this;exact this
 rw[y] at F M;have H:∀w':qW,qY w w'->Calls Tryz.prog 82 #[qS ah m.heap.length ch,J c,J (k:Int)] w' λe w''=>xop w' m.heap c k e w'':=λw' hb=>xl0 m.heap _ c k w' (hH.later BB hb);clear h hF S a5 hW y hC hH;by_cases hc:60<=m.heap.length\/2147483647<k
 ·rw[if_pos hc] at HE;rw[HE.out];have HC:=hid hc;clear hc;go_enter Tryz.func275,Tryz.ntmps275;go_wp2;have tokA:True:=trivial
  go_region_held3 (λw'=>w'.cell? (O mb 0)=some (qS ac p.E.cz.length cc)/\w'.cell? (O mb 1)=some (qS ah m.heap.length ch)/\w'.cell? (O mb 2)=some (J p.ep)/\MkS w mb (qS ac p.E.cz.length cc) (qS ah m.heap.length ch) p.ep w')
   (first | with_reducible exact M.al | with_reducible exact L.al | with_reducible exact D.al | exact (D.later (Bg _ _)).al | exact ((‹_/\_/\_/\MkS w mb (qS ac p.E.cz.length cc) (qS ah m.heap.length ch) p.ep _›).2.2.2.later (Bg _ _)).al | exact ((D.set (by omega) _ _).set (by omega) _ _).al)
   (first
    | (have _t:=tokA;go_at_call 83;refine (F _ (‹_/\_/\_/\MkS w mb (qS ac p.E.cz.length cc) (qS ah m.heap.length ch) p.ep _›).2.2.2.bel).mono ?_;rintro e w1 ⟨rfl,a⟩;have L:=(‹_/\_/\_/\MkS w mb (qS ac p.E.cz.length cc) (qS ah m.heap.length ch) p.ep _›).2.2.2.later a;clear tokA;have tokB:True:=trivial;obtain⟨l,t⟩:=Hq a;have a7:=L.bel.size;try (have hl:=Cd (xqu w _) a.size))
    | (have _t:=tokB;go_at_call 82;refine (H _ (‹_/\_/\_/\MkS w mb (qS ac p.E.cz.length cc) (qS ah m.heap.length ch) p.ep _›).2.2.2.bel).mono ?_;rintro e w2 ⟨d,q,-⟩;obtain rfl:=q HC.out;clear q;have D:=(‹_/\_/\_/\MkS w mb (qS ac p.E.cz.length cc) (qS ah m.heap.length ch) p.ep _›).2.2.2.later d;have Y:=(‹_/\_/\_/\MkS w mb (qS ac p.E.cz.length cc) (qS ah m.heap.length ch) p.ep _›).2.2.2.bel.size;clear tokB;obtain⟨n,u⟩:=Hq d;have a9:=d.size;have a8:=a.size))
  all_goals (
   have V:=hid (‹_/\_/\_/\MkS w mb (qS ac p.E.cz.length cc) (qS ah m.heap.length ch) p.ep _›).2.2.2.bel;clear L D;go_wp2;go_ret;exact⟨rfl,⟨T,.refl _ _,⟨_,_,_,U.out.later V.out⟩,λh=>absurd h (by simp)⟩,Kp.of_below V.out⟩)
 rw[if_neg hc] at HE;rw[HE.out];have HC:=hid hc;clear hc;go_enter Tryz.func275,Tryz.ntmps275;go_wp2;have tokA:True:=trivial
 go_region_held3 (λw'=>w'.cell? (O mb 0)=some (qS ac p.E.cz.length cc)/\w'.cell? (O mb 1)=some (qS ah m.heap.length ch)/\w'.cell? (O mb 2)=some (J p.ep)/\MkS w mb (qS ac p.E.cz.length cc) (qS ah m.heap.length ch) p.ep w')
  (first | with_reducible exact M.al | with_reducible exact L.al | with_reducible exact D.al | exact (D.later (Bg _ _)).al | exact ((‹_/\_/\_/\MkS w mb (qS ac p.E.cz.length cc) (qS ah m.heap.length ch) p.ep _›).2.2.2.later (Bg _ _)).al | exact ((D.set (by omega) _ _).set (by omega) _ _).al)
  (first
   | (have _t:=tokA;go_at_call 83;refine (F _ (‹_/\_/\_/\MkS w mb (qS ac p.E.cz.length cc) (qS ah m.heap.length ch) p.ep _›).2.2.2.bel).mono ?_;rintro e w1 ⟨rfl,a⟩;have L:=(‹_/\_/\_/\MkS w mb (qS ac p.E.cz.length cc) (qS ah m.heap.length ch) p.ep _›).2.2.2.later a;clear tokA;have tokB:True:=trivial;obtain⟨l,t⟩:=Hq a;have a7:=L.bel.size;try (have hl:=Cd (xqu w _) a.size))
   | (have _t:=tokB;go_at_call 82;refine (H _ (‹_/\_/\_/\MkS w mb (qS ac p.E.cz.length cc) (qS ah m.heap.length ch) p.ep _›).2.2.2.bel).mono ?_;rintro e w2 ⟨d,-,r⟩;obtain⟨g2,s2,C,rfl,i⟩:=r HC.out;have W:=xsD T w i;clear r i;have D:=(‹_/\_/\_/\MkS w mb (qS ac p.E.cz.length cc) (qS ah m.heap.length ch) p.ep _›).2.2.2.later d;have Y:=(‹_/\_/\_/\MkS w mb (qS ac p.E.cz.length cc) (qS ah m.heap.length ch) p.ep _›).2.2.2.bel.size;clear tokB;obtain⟨n,u⟩:=Hq d;have a9:=d.size;have a8:=a.size))
 all_goals (
  have R:=hid D.bel;have G:=Bs U.out.box R.out;have ag:w2.cell? (O mb 1)=some (qS ah m.heap.length ch):=by rw[Bn G];rfl
  have ae:=BN G;have N:=hid G;have aa:mb<w2.heap.size:=By G;have ai:¬ mb=w2.heap.size:=by omega
  have a0:¬ mb=w1.heap.size:=by omega
  have X:¬ mb=w.heap.size:=by omega
  have ab:¬ w2.heap.size=mb:=by omega
  have ad:¬ w1.heap.size=mb:=by omega
  have af:¬ w.heap.size=mb:=by omega
  clear L D G;go_wp2_with fail;obtain⟨T2,hE,B,z⟩:=W.out;have a6:=hE (by first | omega | (simp;omega));have a4:T2 mb=1:=by rw[a6 mb Z];exact U.out.tag
  have h4:∀b,w.heap.size<=b->b<=w1.heap.size->T2 b=4:=λb h1 h2=>z b h1 (by first | omega | (simp;omega))
  refine (xmr (v:=⟨4,m.heap.length⟩) U.out HF.out a6 B
   (by first | exact Bs (xku N.out _ _) (Bg _ _) | exact xku (by rw[BS a0,BS a0];exact N.out) _ _ | exact xku (by rw[BS X,BS X];exact N.out) _ _)
   (by first | exact ((Kp.refl _ _ _).set (λ_=>Or.inl a4) _ _).on (Bg _ _) | exact (((Kp.refl _ _ _).set (λ_=>Or.inr (h4 _ (by omega) (by omega))) _ _).set (λ_=>Or.inr (h4 _ (by omega) (by omega))) _ _).set (λ_=>Or.inl a4) _ _)
   (by first | exact ((Kp.of_below R.out).set (λ_=>U.out.tag) _ _).on (Bg _ _) | exact (((Kp.of_below R.out).set (λh=>absurd h (by omega)) _ _).set (λh=>absurd h (by omega)) _ _).set (λ_=>U.out.tag) _ _)
   j).mono ?_
  rintro e w4 ⟨rfl,q1,q2⟩;have Q1:=hid q1;have Q2:=hid q2;clear q1 q2 l t n u;go_wp2;go_ret;obtain⟨T',a1,a2,a3⟩:=Q1.out;exact⟨rfl,⟨T',a1,a2,λ_=>a3 (by trivial)⟩,Q2.out⟩)
end
end Go.Proofs.YtbafokihegegiaaGreatDoor
