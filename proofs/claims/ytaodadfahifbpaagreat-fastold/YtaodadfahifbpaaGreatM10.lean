/- A part. -/
import Derived.Test.YtaodadfahifbpaaGreatM9
namespace Go.Proofs.YtaodadfahifbpaaGreat
open Go.ChangeShapes Go.WideShapes Go.ChangeAt Go.RowKit
set_option linter.unusedSimpArgs false
set_option linter.unusedVariables false
set_option maxHeartbeats 8000000
set_option maxRecDepth 8000
theorem xhM {P:Nat->Prop}{w:World}{v:Value}{xs:List QI}(h:xaK P w v xs):xaK (fun b=>P b/\b<w.heap.size) w v xs:=by
 obtain⟨ad,cap,h1,h2,h3,h4,h5⟩:=h;refine⟨ad,cap,h1,h2,h3,h4,fun i x hx=>?_⟩
 obtain⟨b,o,e1,e2,e3⟩:=h5 i x hx
 exact⟨b,o,e1,⟨e2,World.block_lt_of_cell? _ _ e3.1⟩,e3⟩
def xkd:Lay Fst:=fun P w f x=>f 0=some (.int .i64 x.cls)/\f 1=some (.string x.name)/\f 2=some (.int .i64 x.ez)/\f 3=some (.int .i64 x.temps)/\∃ v,f 4=some v/\xaK P w v x.code
abbrev xcG:=IsRow xkd 5 64
theorem xgC:Good xkd 5 where
 move h hl hk hf:=by
  obtain⟨h0,h1,h2,h3,v,h5,h6⟩:=h
  exact⟨hf 0 (by omega) _ h0,hf 1 (by omega) _ h1,hf 2 (by omega) _ h2,hf 3 (by omega) _ h3,v,hf 4 (by omega) _ h5,h6.keep xaV hk hl⟩
 there h k hk:=by
  obtain⟨h0,h1,h2,h3,v,h4,⟨a,c,rfl,-⟩⟩:=h
  match k,hk with
  | 0,_=>exact⟨_,h0,rfl⟩
  | 1,_=>exact⟨_,h1,rfl⟩
  | 2,_=>exact⟨_,h2,rfl⟩
  | 3,_=>exact⟨_,h3,rfl⟩
  | 4,_=>exact⟨_,h4,rfl⟩
 pos:=by omega
theorem xoZ:(Tryz.prog.info? 49).map (fun i=>(i.zero,i.size,i.bytes))=some (some (.agg #[.int .i64 0,.string ⟨#[]⟩,.int .i64 0,.int .i64 0,.slice none 0 0]),5,64):=by kernel_rfl
def xnh (X:QW)(t:List QT)(c:Nat)(k:Nat):List Fst:=if (xcu X (c:Int) (k:Int) (xbp X t (c:Int) (k:Int))).2=true then [(xcu X (c:Int) (k:Int) (xbp X t (c:Int) (k:Int))).1] else []
def xiN (X:QW)(t:List QT)(c n:Nat):List Fst:=(List.range n).flatMap (xnh X t c)
def xhb (X:QW)(c:Nat):Nat:=match X.cz[c]? with
 | some x=>x.mz.length
 | none=>0
def xev (X:QW)(t:List QT)(n:Nat):List Fst:=(List.range n).flatMap fun c=>xiN X t c (xhb X c)
section
variable {X:QW} {t:List QT}
theorem xfk (c n:Nat):xiN X t c (n+1)=xiN X t c n++xnh X t c n:=by
 unfold xiN;rw[List.range_succ,List.flatMap_append];simp
theorem xg1 (n:Nat):xev X t (n+1)=xev X t n++xiN X t n (xhb X n):=by
 unfold xev;rw[List.range_succ,List.flatMap_append];simp
theorem xmw (c k:Nat):(xnh X t c k).length<=1:=by unfold xnh;split<;>simp
theorem xgS (c:Nat):∀ n,(xiN X t c n).length<=n
 | 0=>by simp[xiN]
 | n+1=>by rw[xfk,List.length_append];have:=xgS c n;have:=xmw (X:=X) (t:=t) c n;omega
theorem xgE (h:∀ c,xhb X c<=8):∀ n,(xev X t n).length<=n*8
 | 0=>by simp[xev]
 | n+1=>by rw[xg1,List.length_append];have:=xgE h n;have:=xgS (X:=X) (t:=t) n (xhb X n);have:=h n;omega
theorem xl6 {c k:Nat}{f:Fst}(h:xcu X (c:Int) (k:Int) (xbp X t (c:Int) (k:Int))=(f,true)):xnh X t c k=[f]:=by unfold xnh;rw[h];rfl
theorem xnt {c k:Nat}{f:Fst}(h:xcu X (c:Int) (k:Int) (xbp X t (c:Int) (k:Int))=(f,false)):xnh X t c k=[]:=by unfold xnh;rw[h];rfl
end
theorem xic {X:QW}(h:xaW X=0)(c:Nat):xhb X c<=8:=by
 unfold xhb
 cases hx:X.cz[c]? with
 | none=>simp
 | some x=>
  simp only;obtain⟨-,-,hM,-⟩:=xcg h;have h1:=hM c x (xag hx) hx;unfold rkE at h1
  split at h1
  ·cases h1
  ·split at h1
   ·cases h1
   ·omega
theorem xlL {X:QW}(h:xaW X=0):X.cz.length<=12:=by
 unfold xaW at h
 split at h
 ·cases h
 ·omega
structure FaL (Z:World)(B:Nat)(fs:List Fst)(cs:List Value)(v:Value)(wr:World):Prop where
 bel:Below B Z wr
 sz:B<=wr.heap.size
 own:ownsAt wr B 49 5 v fs.length cs
 row:Cells xkd 5 (fun b=>B<=b/\v.ownBlock≠some b) wr cs fs
theorem xf1 {P Q:Nat->Prop}{wr w':World}{cs:List Value}{fs:List Fst}(h:Cells xkd 5 P wr cs fs)(hk:∀ b,P b->b<wr.heap.size->w'.heap[b]?=wr.heap[b]?)(hl:∀ b,P b->b<wr.heap.size->Q b):Cells xkd 5 Q w' cs fs:=
 ⟨h.1,fun i x hx=>by
  obtain⟨a0,a1,a2,a3,v,a4,hc⟩:=h.2 i x hx
  exact⟨a0,a1,a2,a3,v,a4,(xhM hc).keep xaV (Keeps.of_block fun b hb hl'=>hk b hb.1 hl') fun b hb=>hl b hb.1 hb.2⟩⟩
section
variable {Z:World} {B:Nat} {fs:List Fst} {cs:List Value} {v:Value} {wr w':World}
theorem xog (w:World)(o:Obj):FaL (w.alloc o) (w.heap.size+1) [] [] (.slice none 0 0) (w.alloc o):=⟨Below.refl _ _,by simp,⟨rfl,Or.inl ⟨rfl,rfl⟩⟩,Cells.nil⟩
theorem FaL.later (h:FaL Z B fs cs v wr)(hb:Below wr.heap.size wr w'):FaL Z B fs cs v w':=
 ⟨h.bel.trans ⟨hb.os,hb.tape,hb.output,hb.size,fun b hb'=>hb.block b (by have:=h.sz;omega)⟩,qzD h.sz hb.size,h.own.keep fun g hg=>hb.block g (h.own.lt g hg).2,h.row.later xgC hb⟩
theorem FaL.add (h:FaL Z B fs cs v wr){f:Fst}{kv v':Value}{L:Nat}{P:Nat->Prop}(hkv:xaK P wr kv f.code)(hP:∀ b,P b->L<=b)(hL:B<=L)(hv:∀ g,v.ownBlock=some g->g<L)(r1:ownsAt w' B 49 5 v' (fs.length+1) (cs++[.int .i64 f.cls,.string f.name,.int .i64 f.ez,.int .i64 f.temps,kv]))(r2:v'.ownBlock=v.ownBlock\/∃ g,v'.ownBlock=some g/\wr.heap.size<=g)(r3:Below B wr w')(r4:∀ b,b<wr.heap.size->some b≠v.ownBlock->w'.heap[b]?=wr.heap[b]?):FaL Z B (fs++[f]) (cs++[.int .i64 f.cls,.string f.name,.int .i64 f.ez,.int .i64 f.temps,kv]) v' w':=by
 have hnew:∀ b,b<wr.heap.size->v.ownBlock≠some b->v'.ownBlock≠some b:=fun b hb hne=>by
  rcases r2 with r2 | ⟨g',e,hl⟩
  ·rw[r2];exact hne
  ·rw[e];intro e';cases e';exact absurd hb (by omega)
 refine⟨h.bel.trans r3,qzD h.sz r3.size,by simpa using r1,?_⟩
 refine (xf1 h.row (fun b hb hl=>r4 b hl fun e=>hb.2 e.symm) fun b hb hl=>⟨hb.1,hnew b hl hb.2⟩).append xgC (Cells.one xgC rfl ?_)
 refine⟨rfl,rfl,rfl,rfl,kv,rfl,(xhM hkv).keep xaV (Keeps.of_block fun b hb hl=>r4 b hl fun e=>by have:=hv b e.symm;have:=hP b hb.1;omega) fun b hb=>⟨by have:=hP b hb.1;omega,hnew b hb.2 fun e=>by have:=hv b e;have:=hP b hb.1;omega⟩⟩
theorem FaL.fasts (h:FaL Z B fs cs v wr)(hl:fs.length<=1000):xcG (fun b=>B<=b) wr v fs:=
 xfB xgC h.own (xf1 h.row (fun _ _ _=>rfl) fun b hb _=>hb.1) rfl (fun b h1 _=>h1) (by omega)
theorem FaL.form (h:FaL Z B fs cs v wr):∃ a cap,v=.slice a fs.length cap/\fs.length<=cap/\cap<=9223372036854775807:=by
 obtain⟨a,cap,e,h1,h2⟩:=h.own.form;unfold maxLen at h2
 exact⟨a,cap,e,h1,by omega⟩
end
theorem xer:∀ (x y z:List UInt8),Op.bytesLess x y=true->Op.bytesLess y z=true->Op.bytesLess x z=true
 | [],[],z,h,_=>by simp[Op.bytesLess] at h
 | [],b :: y,[],_,k=>by simp[Op.bytesLess] at k
 | [],b :: y,c :: z,_,_=>by simp[Op.bytesLess]
 | a :: x,[],z,h,_=>by simp[Op.bytesLess] at h
 | a :: x,b :: y,[],_,k=>by simp[Op.bytesLess] at k
 | a :: x,b :: y,c :: z,h,k=>by
  simp only[Op.bytesLess,Bool.or_eq_true,decide_eq_true_eq,Bool.and_eq_true,beq_iff_eq] at h k ⊢
  rcases h with h | ⟨rfl,h⟩
  ·rcases k with k | ⟨rfl,k⟩
   ·exact Or.inl (UInt8.lt_trans h k)
   ·exact Or.inl h
  ·rcases k with k | ⟨rfl,k⟩
   ·exact Or.inl k
   ·exact Or.inr ⟨rfl,xer x y z h k⟩
theorem xeT:∀ (x:List UInt8),Op.bytesLess x x=false
 | []=>rfl
 | a :: x=>by simp[Op.bytesLess,xeT x]
theorem xiR:∀ (x y:List UInt8),Op.bytesLess x y=true\/x=y\/Op.bytesLess y x=true
 | [],[]=>Or.inr (Or.inl rfl)
 | [],b :: y=>Or.inl (by simp[Op.bytesLess])
 | a :: x,[]=>Or.inr (Or.inr (by simp[Op.bytesLess]))
 | a :: x,b :: y=>by
  simp only[Op.bytesLess,Bool.or_eq_true,decide_eq_true_eq,Bool.and_eq_true,beq_iff_eq]
  rcases UInt8.lt_or_lt_of_ne (a:=a) (b:=b) |> fun h=>(Classical.em (a=b)).elim (fun e=>Or.inr e) (fun e=>Or.inl (h e)) with (h | h) | rfl
  ·exact Or.inl (Or.inl h)
  ·exact Or.inr (Or.inr (Or.inl h))
  ·rcases xiR x y with h | rfl | h
   ·exact Or.inl (Or.inr ⟨rfl,h⟩)
   ·exact Or.inr (Or.inl rfl)
   ·exact Or.inr (Or.inr (Or.inr ⟨rfl,h⟩))
theorem xnX {a b:ByteArray}:gtN a b=true ↔ ltN b a=true:=by
 unfold gtN ltN
 constructor
 ·intro h;simp only[Bool.and_eq_true,Bool.not_eq_true',beq_eq_false_iff_ne] at h
  rcases xiR a.toList b.toList with k | k | k
  ·rw[h.1] at k;cases k
  ·exact absurd k (by simpa using h.2)
  ·exact k
 ·intro h
  have h1:Op.bytesLess a.toList b.toList=false:=by
   cases k:Op.bytesLess a.toList b.toList
   ·rfl
   ·have:=xer _ _ _ h k;rw[xeT] at this;cases this
  have h2:¬ a.toList=b.toList:=fun e=>by rw[e,xeT] at h;cases h
  simp[h1,h2]
theorem xjn {a b:ByteArray}:eqN a b=true ↔ a.toList=b.toList:=by simp[eqN]
theorem xpb {a b c:ByteArray}(h:eqN a b=true)(k:ltN a c=true):ltN b c=true:=by
 unfold ltN at k ⊢;rw[← xjn.1 h];exact k
theorem xhi {a b c:ByteArray}(h:ltN a b=true)(k:ltN b c=true):ltN a c=true:=xer _ _ _ h k
theorem xhg {a b:ByteArray}(h:ltN b a=true):eqN a b=false:=by
 cases k:eqN a b
 ·rfl
 ·unfold ltN at h;rw[xjn.1 k,xeT] at h;cases h
def xel (X:QW)(fuel:Int)(qk:Int->Int->Option (List QI × Int)):Env Unit:=⟨X.cz,fuel,fun _ _ c name=>((),xaF X.cz c name),qk⟩
def xcS (X:QW)(p:Fst->Bool)(l:List Fst)(c n:Int):Option (List QI × Int):=match xaJ X.cz c n with
 | none=>none
 | some mt=>(l.find? fun f=>decide (f.cls=c) && eqN f.name mt.name && p f).map fun f=>(f.code,f.temps)
theorem xhC {X:QW}{p:Fst->Bool}{l:List Fst}{c n:Int}{q:List QI × Int}(h:xcS X p l c n=some q):∃ f∈l,f.cls=c/\(∀ mt,xaJ X.cz c n=some mt->f.name=mt.name)/\p f=true/\q=(f.code,f.temps):=by
 unfold xcS at h
 cases hm:xaJ X.cz c n with
 | none=>rw[hm] at h;cases h
 | some mt=>
  rw[hm] at h;simp only[Option.map_eq_some_iff] at h;obtain⟨f,hf,rfl⟩:=h;have h1:=List.mem_of_find?_eq_some hf;have h2:=List.find?_some hf;simp only[Bool.and_eq_true,decide_eq_true_eq] at h2;refine⟨f,h1,h2.1.1,fun mt' e=>?_,h2.2,rfl⟩
  cases e
  exact (xn1 _ _).1 h2.1.2
structure LkF (X:QW)(l:List Fst)(b b1 b2:Nat)(cv hv fv:Value)(T:Nat->Nat)(w:World)(st:Unit)(n:Nat):Prop where
 lk:LkP X b cv hv T w st n
 pk:LkP X b1 cv hv T w st n
 tag:T b2=0
 lt:b2<w.heap.size
 c0:w.cell? ⟨b2,0,none⟩=some fv
 fs:xcG (Fx T w) w fv l
theorem xd6 (X:QW)(l:List Fst)(b b1 b2:Nat)(cv hv fv:Value):Lok (LkF X l b b1 b2 cv hv fv):=
 ⟨fun h e k h0 _=>⟨h.lk.keep e k h0,h.pk.keep e k h0,by rw[e _ h.lt];exact h.tag,qzE h.lt k.size,k.cell h.c0 (by rw[h.tag];exact h0),h.fs.fx xgC e k h0⟩,fun h hn=>⟨(xhH X b cv hv).mono h.lk hn,(xhH X b1 cv hv).mono h.pk hn,h.tag,h.lt,h.c0,h.fs⟩⟩
theorem xhO {X:QW}{b:Nat}{cv hv:Value}{T:Nat->Nat}{w:World}{n:Nat}(h:LkP X b cv hv T w () n)(s:QS)(c:Int)(name:ByteArray):Calls Tryz.prog 37 #[SV s,.int .i64 c,.string name,.pointer (some ⟨b,0,none⟩)] w fun e w'=>e=.returned (.tuple #[.int .i64 (xaF X.cz c name).1,.int .i64 (xaF X.cz c name).2])/\Below w.heap.size w w':=by
 have hb1:=xaj w (.cells #[.int .i64 s.cls,.string s.name,.int .i64 s.at'] 63);have h1:=h.keep (T':=T) (.refl _ _) (Kp.of_below (S:=fun _=>False) hb1) id
 have hf:=fun w' (hb:Below (w.alloc (.cells #[.int .i64 s.cls,.string s.name,.int .i64 s.at'] 63)).heap.size (w.alloc (.cells #[.int .i64 s.cls,.string s.name,.int .i64 s.at'] 63)) w')=>xeZ X c name cv hv w' ((h1.cls.mono (Q:=fun _=>True) xau fun _ _=>trivial).later xau hb) ((h1.heap.mono (Q:=fun _=>True) xaz fun _ _=>trivial).later xaz hb)
 obtain⟨-,-,w0,w1,w2,hc,hh⟩:=id h1;obtain⟨ac,cc,rfl,-⟩:=id hc;obtain⟨ah,ch,rfl,-⟩:=id hh;clear h h1 hc hh;obtain⟨r1,r2,hr⟩:∃ r1 r2,xaF X.cz c name=(r1,r2):=⟨_,_,rfl⟩;rw[hr] at hf ⊢;clear hr;go_enter Tryz.func37,Tryz.ntmps37
 go_upto_region 1 with (fail)
 generalize (w.alloc (.cells #[.int .i64 s.cls,.string s.name,.int .i64 s.at'] 63))=W at *;go_wp2_with fail;refine (hf _ (Below.refl _ _)).mono ?_;rintro e w2' ⟨rfl,hb2⟩;have HB:=hid (xae hb1 hb2);clear w0 w1 w2 hf hb2;go_wp2;refine bodyPost_ret (v:=.tuple #[.int .i64 r1,.int .i64 r2]) ?_ rfl ⟨rfl,HB.out⟩
 simp[results,Tryz.results37,go_sem]
theorem xiG (cv hv:Value)(ep:Int)(w:World)(h1:∃ a n c,cv=.slice a n c)(h2:∃ a n c,hv=.slice a n c):Calls Tryz.prog 20 #[WV cv hv ep] w fun e w'=>e=.returned (.func (.func 37) #[] #[.pointer (some ⟨w.heap.size,0,none⟩)])/\w'.cell? ⟨w.heap.size,0,none⟩=some cv/\w'.cell? ⟨w.heap.size,1,none⟩=some hv/\w'.cell? ⟨w.heap.size,2,none⟩=some (.int .i64 ep)/\w.heap.size<w'.heap.size/\Below w.heap.size w w':=by
 obtain⟨a,n,c,rfl⟩:=h1;obtain⟨a2,n2,c2,rfl⟩:=h2;go_enter Tryz.func20,Tryz.ntmps20;go_wp2
 go_ret
 exact⟨rfl,xaa _ _ _ _ rfl 0,xaa _ _ _ _ rfl 1,xaa _ _ _ _ rfl 2,by simp,xaj _ _⟩
theorem xjQ (cv hv fv:Value)(ep:Int)(w:World)(h1:∃ a n c,cv=.slice a n c)(h2:∃ a n c,hv=.slice a n c)(h3:∃ a n c,fv=.slice a n c):Calls Tryz.prog 21 #[WV cv hv ep,fv] w fun e w'=>e=.returned (.func (.func 39) #[] #[.pointer (some ⟨w.heap.size,0,none⟩),.pointer (some ⟨w.heap.size+1,0,none⟩)])/\w'.cell? ⟨w.heap.size,0,none⟩=some cv/\w'.cell? ⟨w.heap.size,1,none⟩=some hv/\w'.cell? ⟨w.heap.size,2,none⟩=some (.int .i64 ep)/\w'.cell? ⟨w.heap.size+1,0,none⟩=some fv/\w.heap.size+2<=w'.heap.size/\Below w.heap.size w w':=by
 obtain⟨a,n,c,rfl⟩:=h1;obtain⟨a2,n2,c2,rfl⟩:=h2;obtain⟨a3,n3,c3,rfl⟩:=h3;go_enter Tryz.func21,Tryz.ntmps21;go_wp2
 go_ret
 exact⟨rfl,qzA (xaj _ _) (xaa _ _ _ _ rfl 0),qzA (xaj _ _) (xaa _ _ _ _ rfl 1),qzA (xaj _ _) (xaa _ _ _ _ rfl 2),xaa _ _ _ _ (by simp) 0,by simp,xbA _ _ _⟩
abbrev epB (X:QW)(f:Fst):Bool:=decide (f.ez=X.ez)
theorem xlm {α:Type}{p:α->Bool}:∀ {l:List α} {j:Nat} {y:α},l[j]?=some y->p y=true->(∀ i z,i<j->l[i]?=some z->p z=false)->l.find? p=some y
 | [],j,y,h,_,_=>by simp at h
 | a :: l,0,y,h,hy,_=>by simp at h;subst h;simp[hy]
 | a :: l,j+1,y,h,hy,hn=>by
  have ha:=hn 0 a (by omega) rfl
  rw[List.find?_cons_of_neg (by simp[ha])]
  exact xlm (l:=l) (j:=j) (by simpa using h) hy fun i z hi hz=>hn (i+1) z (by omega) (by simpa using hz)
theorem xiL {α:Type}{p:α->Bool}{l:List α}(h:∀ i z,i<l.length->l[i]?=some z->p z=false):l.find? p=none:=by
 rw[List.find?_eq_none];intro z hz;obtain⟨i,hi,rfl⟩:=List.getElem_of_mem hz;have:=h i l[i] hi (by simp[hi])
 simp[this]
structure PkR (Z:World)(b1:Nat)(cv hv:Value)(ep:Int)(wr:World):Prop where
 bel:Below Z.heap.size Z wr
 w0:wr.cell? ⟨b1,0,none⟩=some cv
 w1:wr.cell? ⟨b1,1,none⟩=some hv
 w2:wr.cell? ⟨b1,2,none⟩=some (.int .i64 ep)
 z0:wr.heap[Z.heap.size]?=some (.cells #[.int .i64 0,.string ⟨#[]⟩,.int .i64 0,.int .i64 0,.slice none 0 0] 49 (0,0))
theorem PkR.later {Z:World}{b1:Nat}{cv hv:Value}{ep:Int}{wr w':World}(h:PkR Z b1 cv hv ep wr)(hb:Below wr.heap.size wr w'):PkR Z b1 cv hv ep w':=⟨xae h.bel hb,qzA hb h.w0,qzA hb h.w1,qzA hb h.w2,xad h.z0 hb⟩
theorem xh0 {X:QW}{l:List Fst}{b b1 b2:Nat}{cv hv fv:Value}{T:Nat->Nat}{w:World}{n:Nat}(h:LkF X l b b1 b2 cv hv fv T w () n)(c k:Int)(mt:QM)(hm:xaJ X.cz c k=some mt) :
  Calls Tryz.prog 39 #[.int .i64 c,.int .i64 k,.pointer (some ⟨b1,0,none⟩),.pointer (some ⟨b2,0,none⟩)] w fun e w'=>(∃ fc fn fe ft av nv cv,e=.returned (.tuple #[FaV fc fn fe ft (.slice av nv cv),.bool (xcS X (epB X) l c k).isSome])/\∀ q,xcS X (epB X) l c k=some q->ft=q.2/\xaK (Fx T w') w' (.slice av nv cv) q.1)/\Below w.heap.size w w':=by
 obtain⟨-,hpk,-,-,f0,hfs⟩:=h;obtain⟨-,-,w0,w1,w2,hc,hh⟩:=id hpk;obtain⟨kc,kn,x,rfl,rfl,hx,hxm⟩:=xgF hm;obtain⟨aC,cc,rfl,hlc,hcc,hbyc,hrowC⟩:=id hc;obtain⟨ah,ch,rfl,-⟩:=id hh;obtain⟨aF,fc,rfl,hlf,hcf,hbyf,hrowF⟩:=id hfs;obtain⟨bC,oC,rfl,-,hxc⟩:=hrowC kc x hx;obtain⟨x0,x1,x2,-,mv,x3,hms⟩:=hxc;obtain⟨aM,cm,rfl,hlm,hcm,hbym,hrowM⟩:=id hms;obtain⟨bM,oM,rfl,-,hmc⟩:=hrowM kn mt hxm;obtain⟨m0,-⟩:=hmc;have hP:Hid (xcS X (epB X) l (kc:Int) (kn:Int)=(l.find? fun f=>decide (f.cls=(kc:Int)) && eqN f.name mt.name && epB X f).map fun f=>(f.code,f.temps)):=by show _=_;unfold xcS;rw[hm]
 have hlx:=xag hx;have hlxm:=xag hxm;have hZ:PkR w b1 (.slice (some ⟨bC,oC,none⟩) X.cz.length cc) (.slice ah X.heap.length ch) X.ez (w.alloc (.cells #[.int .i64 0,.string ⟨#[]⟩,.int .i64 0,.int .i64 0,.slice none 0 0] 49)):=⟨xaj _ _,qzA (xaj _ _) w0,qzA (xaj _ _) w1,qzA (xaj _ _) w2,heap_alloc_new w _⟩;have q1:=qzA (xaj w (.cells #[.int .i64 0,.string ⟨#[]⟩,.int .i64 0,.int .i64 0,.slice none 0 0] 49)) x3;have q2:=qzA (xaj w (.cells #[.int .i64 0,.string ⟨#[]⟩,.int .i64 0,.int .i64 0,.slice none 0 0] 49)) m0;have q3:=qzA (xaj w (.cells #[.int .i64 0,.string ⟨#[]⟩,.int .i64 0,.int .i64 0,.slice none 0 0] 49)) f0
 have k1:(kc:Int)<(X.cz.length:Int):=by omega
 have k2:(kn:Int)<(x.mz.length:Int):=by omega
 have k3:(0:Int)<=(kc:Int):=by omega
 have k4:(0:Int)<=(kn:Int):=by omega
 have HF:=hid hfs;clear hm hc hh hfs hrowC hms hrowM x0 x1 x2 x3 m0 f0 w0 w1 w2 hpk;have HRF:=hid hrowF;clear hrowF;simp only[Nat.add_zero] at q2;unfold maxLen at hcc hcm hcf;go_enter Tryz.func39,Tryz.ntmps39
 go_upto_region 1 with (fail)
 have hbZ:=hid hZ;generalize (w.alloc (.cells #[.int .i64 0,.string ⟨#[]⟩,.int .i64 0,.int .i64 0,.slice none 0 0] 49))=W at *;obtain⟨-,w0,w1,w2,-⟩:=id hZ;clear hZ
 go_upto_region 2 with (fail)
 have hlW:(l.length:Int)<=9223372036854775807:=by omega
 go_upto_region 3 with (fail)
 clear w0 w1 w2 q1 q2 q3 k1 k2 k3 k4
 go_loopg [23] l.length (fun gk c wr=>∃ j:Nat,j+gk=l.length/\c=.int .i64 j/\PkR w b1 (.slice (some ⟨bC,oC,none⟩) X.cz.length cc) (.slice ah X.heap.length ch) X.ez wr/\∀ i y,i<j->l[i]?=some y->(decide (y.cls=(kc:Int)) && eqN y.name mt.name && epB X y)=false)
 case atStart=>exact⟨0,by omega,rfl,hbZ.out,fun i y hi=>by omega⟩
 case round=>
  clear hbZ;obtain⟨j,hj,rfl,hRr,hok⟩:=hrel;have HO:=hid hok;clear hok;obtain⟨-,w0,w1,w2,z0⟩:=id hRr
  by_cases hlt:j<l.length
  ·have hx':l[j]?=some l[j]:=by simp[hlt]
   have HX:=hid hx';generalize l[j]=y at *;obtain⟨b',o',rfl,-,y0,y1,y2,y3,yv,y4,hyc⟩:=HRF.out j y hx';obtain⟨ay,cy,rfl,-⟩:=id hyc;simp only[Nat.add_zero] at y0;have u0:=qzA hRr.bel y0;have u1:=qzA hRr.bel y1;have u2:=qzA hRr.bel y2;have u3:=qzA hRr.bel y3;have u4:=qzA hRr.bel y4;have HYC:=hid hyc;clear y0 y1 y2 y3 y4 hx' hyc;have hj1:(j:Int)<(l.length:Int):=by omega
   have hj0:(0:Int)<=(j:Int):=by omega
   have hb5:=xaj wr (.cells #[.int .i64 y.cls,.string y.name,.int .i64 y.ez,.int .i64 y.temps,.slice ay y.code.length cy] 49);have hRa:=hRr.later hb5;have hbox:(wr.alloc (.cells #[.int .i64 y.cls,.string y.name,.int .i64 y.ez,.int .i64 y.temps,.slice ay y.code.length cy] 49)).heap[wr.heap.size]?=some (.cells #[.int .i64 y.cls,.string y.name,.int .i64 y.ez,.int .i64 y.temps,.slice ay y.code.length cy] 49 (0,0)):=heap_alloc_new wr _
   go_upto_region 5 with (fail)
   generalize (wr.alloc (.cells #[.int .i64 y.cls,.string y.name,.int .i64 y.ez,.int .i64 y.temps,.slice ay y.code.length cy] 49))=V at *;generalize wr.heap.size=bx at *
   obtain⟨v0,v1,v2,v3,v4⟩:V.cell? ⟨bx,0,none⟩=some (.int .i64 y.cls)/\V.cell? ⟨bx,1,none⟩=some (.string y.name)/\V.cell? ⟨bx,2,none⟩=some (.int .i64 y.ez)/\V.cell? ⟨bx,3,none⟩=some (.int .i64 y.temps)/\V.cell? ⟨bx,4,none⟩=some (.slice ay y.code.length cy):=by
    refine⟨?_,?_,?_,?_,?_⟩<;>(rw[qzB hbox];rfl)
   obtain⟨hbr,w0',w1',w2',z0'⟩:=id hRa;have zf:=xam z0'
   obtain⟨z1,z2,z3,z4,z5⟩:V.cell? ⟨w.heap.size,0,none⟩=some (.int .i64 0)/\V.cell? ⟨w.heap.size,1,none⟩=some (.string ⟨#[]⟩)/\V.cell? ⟨w.heap.size,2,none⟩=some (.int .i64 0)/\V.cell? ⟨w.heap.size,3,none⟩=some (.int .i64 0)/\V.cell? ⟨w.heap.size,4,none⟩=some (.slice none 0 0):=by
    refine⟨?_,?_,?_,?_,?_⟩<;>(rw[qzB z0'];rfl)
   clear u0 u1 u2 u3 u4 w0 w1 w2 z0 hbox hb5 hRr
   by_cases hyes:(decide (y.cls=(kc:Int)) && eqN y.name mt.name && epB X y)=true
   ·have HFD:Hid (xcS X (epB X) l (kc:Int) (kn:Int)=some (y.code,y.temps)):=by
     show _=_
     rw[hP.out,xlm HX.out hyes HO.out]
     rfl
    simp only[Bool.and_eq_true,decide_eq_true_eq,eqN,epB] at hyes;obtain⟨⟨e1,e2⟩,e3⟩:=hyes;have e1':(y.cls == (kc:Int))=true:=by simpa using e1
    have e3':(y.ez == X.ez)=true:=by simpa using e3
    have HV:Hid (∀ U:World,Below w.heap.size w U->xaK (Fx T U) U (.slice ay y.code.length cy) y.code):=fun U hU=>(HYC.out.later xaV hU).mono xaV fun b hb=>⟨qzE hb.1 hU.size,hb.2⟩
    clear e1 e3;go_wp2;refine bodyPost_ret (v:=.tuple #[FaV y.cls y.name y.ez y.temps (.slice ay y.code.length cy),.bool true]) ?_ rfl ⟨⟨_,_,_,_,_,_,_,by rw[HFD.out];rfl,fun q hq=>by rw[HFD.out] at hq;cases hq;exact⟨rfl,HV.out _ (((((hbr.setCell (by simp) _).setCell (by simp) _).setCell (by simp) _).setCell (by simp) _).setCell (by simp) _)⟩⟩,((((hbr.setCell (by simp) _).setCell (by simp) _).setCell (by simp) _).setCell (by simp) _).setCell (by simp) _⟩
    simp[results,Tryz.results39,go_sem,z1,z2,z3,z4,z5]
   ·have hno:(decide (y.cls=(kc:Int)) && eqN y.name mt.name && epB X y)=false:=by simpa using hyes
    have HN:=hid hno
    have hth:(y.cls == (kc:Int))=false\/((y.cls == (kc:Int))=true/\(y.name.toList == mt.name.toList)=false)\/((y.cls == (kc:Int))=true/\(y.name.toList == mt.name.toList)=true/\(y.ez == X.ez)=false):=by
     unfold eqN epB at hno
     cases h1:(y.cls == (kc:Int))
     ·exact .inl rfl
     ·cases h2:(y.name.toList == mt.name.toList)
      ·exact .inr (.inl ⟨rfl,rfl⟩)
      ·refine .inr (.inr ⟨rfl,rfl,?_⟩);have h1':y.cls=(kc:Int):=by simpa using h1
       rw[h2] at hno
       simpa [h1'] using hno
    clear hno hyes;have HRA:=hid hRa;clear hbr z0' zf z1 z2 z3 z4 z5
    rcases hth with e1 | ⟨e1,e2⟩ | ⟨e1,e2,e3⟩
    all_goals (
     go_wp2
     go_roundg (gk-1)
     case measure=>omega
     case rel=>
      refine⟨j+1,by omega,by go_num,HRA.out,fun i y' hi hy=>?_⟩
      by_cases hij:i=j
      ·subst hij;rw[HX.out] at hy;cases hy;exact HN.out
      ·exact HO.out i y' (by omega) hy)
  ·obtain rfl:j=l.length:=by omega
   have HFD:Hid (xcS X (epB X) l (kc:Int) (kn:Int)=none):=by
    show _=_
    rw[hP.out,xiL HO.out]
    rfl
   have zf:=xam z0
   obtain⟨z1,z2,z3,z4,z5⟩:wr.cell? ⟨w.heap.size,0,none⟩=some (.int .i64 0)/\wr.cell? ⟨w.heap.size,1,none⟩=some (.string ⟨#[]⟩)/\wr.cell? ⟨w.heap.size,2,none⟩=some (.int .i64 0)/\wr.cell? ⟨w.heap.size,3,none⟩=some (.int .i64 0)/\wr.cell? ⟨w.heap.size,4,none⟩=some (.slice none 0 0):=by
    refine⟨?_,?_,?_,?_,?_⟩<;>(rw[qzB z0];rfl)
   have hbr:=hRr.bel;clear w0 w1 w2 hRr z0;go_wp2;refine bodyPost_ret (v:=.tuple #[FaV 0 ⟨#[]⟩ 0 0 (.slice none 0 0),.bool false]) ?_ rfl ⟨⟨_,_,_,_,_,_,_,by rw[HFD.out];rfl,fun q hq=>by rw[HFD.out] at hq;cases hq⟩,((((hbr.setCell (by simp) _).setCell (by simp) _).setCell (by simp) _).setCell (by simp) _).setCell (by simp) _⟩
   simp[results,Tryz.results39,go_sem,z1,z2,z3,z4,z5]
structure PickOk (X:QW)(l:List Fst):Prop where
 ok:∀ fuel,EOk (xel X fuel (xcS X (epB X) l))
 few:∀ c k q,xcS X (epB X) l c k=some q->q.1.length<=500/\∀ x∈q.1,x.op=18->0<=x.b/\x.b<=1000
theorem xoK {X:QW}(hX:xaW X=0){fuel:Int}(hf:fuel<=400){l:List Fst}(hl:PickOk X l)(b b1 b2:Nat)(cv hv fv cv':Value):Cx (⟨xel X fuel (xcS X (epB X) l),cv',X.ez,.func (.func 37) #[] #[.pointer (some ⟨b,0,none⟩)],.func (.func 39) #[] #[.pointer (some ⟨b1,0,none⟩),.pointer (some ⟨b2,0,none⟩)]⟩:Mp Unit) (LkF X l b b1 b2 cv hv fv) 37 #[.pointer (some ⟨b,0,none⟩)] 39 #[.pointer (some ⟨b1,0,none⟩),.pointer (some ⟨b2,0,none⟩)] where
 lv:=rfl
 qv:=rfl
 lcf:=xlQ Tryz.func37 (by kernel_rfl) (by kernel_rfl)
 qcf:=xlQ Tryz.func39 (by kernel_rfl) (by kernel_rfl)
 ok:=hl.ok fuel
 fuel:=by show fuel<=_;omega
 keep h e k h0 h3:=(xd6 X l b b1 b2 cv hv fv).keep h e k h0 h3
 mono h hn:=(xd6 X l b b1 b2 cv hv fv).mono h hn
 look T w st s c name n h:=(xhO h.lk s c name).mono fun e w' hp=>⟨hp.1,⟨T,.refl _ _,(xd6 X l b b1 b2 cv hv fv).mono ((xd6 X l b b1 b2 cv hv fv).keep (T':=T) h (.refl _ _) (Kp.of_below (S:=fun _=>False) hp.2) id id) (Nat.le_succ n)⟩,Kp.of_below hp.2⟩
 quick T w st c k mt n h hm:=xh0 h c k mt hm
 few c k mt hm:=⟨by have:=xkr hX hm;omega,fun q h=>hl.few c k q h⟩
theorem xoL {P Q R:Nat->Prop}(X:QW)(hX:xaW X=0)(s:QV)(name:ByteArray)(args:List QV)(fuel:Int){l:List Fst}(hl:PickOk X l)(r:Ran)(hr:(xio (xel X fuel (xcS X (epB X) l)) X () s name args fuel).1=r)(cv hv av fv:Value)(w:World)(hC:xaf P w cv X.cz)(hH:xaA P w hv X.heap)(hA:xaG Q w av args)(hF:xcG R w fv l)(hn:name.size<=140737488351232)(b b1 b2:Nat)(h1:b<w.heap.size)(f0:w.cell? ⟨b,0,none⟩=some cv)(f1:w.cell? ⟨b,1,none⟩=some hv)(f2:w.cell? ⟨b,2,none⟩=some (.int .i64 X.ez))(h2:b1<w.heap.size)(g0:w.cell? ⟨b1,0,none⟩=some cv)(g1:w.cell? ⟨b1,1,none⟩=some hv)(g2:w.cell? ⟨b1,2,none⟩=some (.int .i64 X.ez))(h3:b2<w.heap.size)(e0:w.cell? ⟨b2,0,none⟩=some fv) :
  Calls Tryz.prog 19 #[WV cv hv X.ez,ClV s name av,.int .i64 fuel,.func (.func 37) #[] #[.pointer (some ⟨b,0,none⟩)],.func (.func 39) #[] #[.pointer (some ⟨b1,0,none⟩),.pointer (some ⟨b2,0,none⟩)]] w fun e w'=>PlPost w X r e w':=by
 have k3:xaf (Fx (fun _=>0) w) w cv X.cz:=(xbO hC).keep xau (Keeps.refl _ _) fun b hb=>⟨hb,rfl⟩
 have k4:xaA (Fx (fun _=>0) w) w hv X.heap:=(xcQ hH).keep xaz (Keeps.refl _ _) fun b hb=>⟨hb,rfl⟩
 have k5:xcG (Fx (fun _=>0) w) w fv l:=by
  obtain⟨ad,cap,q1,q2,q3,q4,q5⟩:=hF;refine⟨ad,cap,q1,q2,q3,q4,fun i x hx=>?_⟩
  obtain⟨bb,o,r1,-,r3,r4,r5,r6,v,r7,r8⟩:=q5 i x hx
  exact⟨bb,o,r1,⟨World.block_lt_of_cell? _ _ r3,rfl⟩,r3,r4,r5,r6,v,r7,(xgf r8).keep xaV (Keeps.refl _ _) fun b hb=>⟨hb,rfl⟩⟩
 rw[← hr]
 exact (xl5 (T0:=fun _=>0) X hX (xel X fuel (xcS X (epB X) l)) () rfl s name args cv hv av w (fun _ _=>.inl rfl) k3 k4 ((xei hA).keep xaS (Keeps.refl _ _) fun b hb=>⟨hb,rfl⟩) hn (xd6 X l b b1 b2 cv hv fv) ⟨⟨rfl,h1,f0,f1,f2,k3,k4⟩,⟨rfl,h2,g0,g1,g2,k3,k4⟩,rfl,h3,e0,k5⟩ (fun _ h4 cv'=>xoK hX h4 hl b b1 b2 cv hv fv cv')).mono fun e w' h=>h.plain
theorem xno {P Q R:Nat->Prop}(X:QW)(hX:xaW X=0)(s:QV)(name:ByteArray)(args:List QV)(fuel:Int){l:List Fst}(hl:PickOk X l)(r:Ran)(hr:(xio (xel X fuel (xcS X (epB X) l)) X () s name args fuel).1=r)(cv hv av fv:Value)(w:World)(hC:xaf P w cv X.cz)(hH:xaA P w hv X.heap)(hA:xaG Q w av args)(hF:xcG R w fv l)(hn:name.size<=140737488351232) :
  Calls Tryz.prog 8 #[WV cv hv X.ez,ClV s name av,.int .i64 fuel,fv] w fun e w'=>PlPost w X r e w':=by
 have hR:=(xig w cv hv X.ez s name av).later (Below.refl _ _).drew;have hbW:Below w.heap.size w ((((w.alloc (.cells #[cv,hv,.int .i64 X.ez] 25)).alloc (.cells #[.int .i64 s.k,.int .i64 s.n,.string name,av] 30)).alloc (.cells #[.slice none 0 0,.slice none 0 0,.int .i64 0] 25)).alloc (.cells #[.int .i64 0,.int .i64 0,.int .i64 0,.int .i64 0] 37)).drew:=(xae (xbA _ _ _) (xbA _ _ _)).drew;obtain⟨ac,cc,rfl,-,-,hby,-⟩:=id hC;obtain⟨ah,ch,rfl,-,-,hbyh,-⟩:=id hH;obtain⟨aa,ca,rfl,-⟩:=id hA;obtain⟨af',cf',rfl,-⟩:=id hF;go_enter Tryz.func8,Tryz.ntmps8
 go_upto_region 1 with (fail)
 generalize ((((w.alloc (.cells #[.slice ac X.cz.length cc,.slice ah X.heap.length ch,.int .i64 X.ez] 25)).alloc (.cells #[.int .i64 s.k,.int .i64 s.n,.string name,.slice aa args.length ca] 30)).alloc (.cells #[.slice none 0 0,.slice none 0 0,.int .i64 0] 25)).alloc (.cells #[.int .i64 0,.int .i64 0,.int .i64 0,.int .i64 0] 37))=W at *;have hS0:=hR.pn;have hfd:=fun w'=>xiG (.slice ac X.cz.length cc) (.slice ah X.heap.length ch) X.ez w' ⟨_,_,_,rfl⟩ ⟨_,_,_,rfl⟩
 have hpk:=fun w'=>xjQ (.slice ac X.cz.length cc) (.slice ah X.heap.length ch) (.slice af' l.length cf') X.ez w' ⟨_,_,_,rfl⟩ ⟨_,_,_,rfl⟩ ⟨_,_,_,rfl⟩
 have hwi:=fun (w':World) (hb:Below w.heap.size w w') (b b1 b2:Nat) h1 h2 h3 h4 h5 h6 h7 h8 h9 h10=>xoL X hX s name args fuel hl r hr _ _ _ _ w' (hC.later xau hb) (hH.later xaz hb) (hA.later xaS hb) (hF.later xgC hb) hn b b1 b2 h1 h2 h3 h4 h5 h6 h7 h8 h9 h10
 clear hC hH hA hF hr;simp only[Nat.add_assoc,Nat.reduceAdd] at *;have tokA:True:=trivial;have tokB:True:=trivial
 go_region_held3 (fun w'=>w'.cell? ⟨w.heap.size,0,none⟩=some (.slice ac X.cz.length cc)/\w'.cell? ⟨w.heap.size,1,none⟩=some (.slice ah X.heap.length ch)/\w'.cell? ⟨w.heap.size,2,none⟩=some (.int .i64 X.ez)/\w'.cell? ⟨w.heap.size+1,0,none⟩=some (.int .i64 s.k)/\w'.cell? ⟨w.heap.size+1,1,none⟩=some (.int .i64 s.n)/\w'.cell? ⟨w.heap.size+1,2,none⟩=some (.string name)/\w'.cell? ⟨w.heap.size+1,3,none⟩=some (.slice aa args.length ca))
  (first | with_reducible exact hS0.al | with_reducible exact hS1.al | with_reducible exact hS2.al | with_reducible exact hS3.al | with_reducible exact (((hS3.set (Or.inl rfl) _ _).set (Or.inl rfl) _ _).set (Or.inl rfl) _ _).al | with_reducible exact (((((((hS3.set (Or.inl rfl) _ _).set (Or.inl rfl) _ _).set (Or.inl rfl) _ _).set (Or.inr rfl) _ _).set (Or.inr rfl) _ _).set (Or.inr rfl) _ _).set (Or.inr rfl) _ _).al | with_reducible exact ((((hS3.set (Or.inr rfl) _ _).set (Or.inr rfl) _ _).set (Or.inr rfl) _ _).set (Or.inr rfl) _ _).al)
  (first
   | (have _t:=tokA;have _u:=tokB;go_at_call 20;refine (hfd _).mono ?_;rintro e w2 ⟨rfl,f0,f1,f2,fz,hb2⟩;have hR2:=hR.later hb2;have hS1:=hR2.pn;have hbw2:=xae hbW hb2;clear tokA)
   | (have _u:=tokB;go_at_call 21;refine (hpk _).mono ?_;rintro e w3 ⟨rfl,g0,g1,g2,g3,gz,hb3⟩;have hR3:=hR2.later hb3;have hS2:=hR3.pn;have hbw3:=xae hbw2 hb3;replace f0:=qzA hb3 f0;replace f1:=qzA hb3 f1;replace f2:=qzA hb3 f2;have fz3:=qzE fz hb3.size;clear tokB)
   | (go_at_call 19;refine (hwi _ hbw3 _ _ _ fz3 f0 f1 f2 (by omega) g0 g1 g2 (by omega) g3).mono ?_;rintro e w4 ⟨hb4,cv4,hv4,rfl,hC4,hH4⟩;have hR4:=hR3.later hb4;have hS3:=hR4.pn;have HQ:=hid (fun u0 u1 u2 v0 v1 v2 v3=>PlPost.fin (r:=r) (X:=X) (P:=fun b=>w3.heap.size<=b) (xae hbw3 hb4) hC4 hH4 (by have:=hR3.sz;omega) (by have:=hR3.sz;omega) (fun x hx=>by have:=hR3.sz;omega) u0 u1 u2 v0 v1 v2 v3);obtain⟨a3,k3,rfl,-⟩:=id hC4;obtain⟨a4,k4,rfl,-⟩:=id hH4;obtain⟨-,-,-,-,-,-,-,a0,a1,a2,af,b0,b1,b2,b3,bf,-⟩:=id hR4;clear hC4 hH4))
 all_goals (
  go_wp2;refine bodyPost_ret (v:=.tuple #[WV (.slice a3 X.cz.length k3) (.slice a4 r.heap.length k4) X.ez,RnV r]) ?_ rfl (HQ.out _ _ _ _ _ _ _)
  simp[results,Tryz.results8,go_sem,a0,a1,a2,b0,b1,b2,b3])
theorem xm9 {X:QW}{f:Fst}(h:epB X f=true):f.ez=X.ez:=by
 unfold epB at h
 simpa using h
theorem xkx {X:QW}{l:List Fst}(h:∀ f∈l,f.ez≠X.ez)(c k:Int):xcS X (epB X) l c k=none:=by
 cases e:xcS X (epB X) l c k with
 | none=>rfl
 | some q=>
  obtain⟨f,h1,-,-,h4,-⟩:=xhC e
  exact absurd (xm9 h4) (h f h1)
def xnR (X:QW)(f:Fst):Bool:=decide (f.code.length<=500) && f.code.all fun x=>(decide (x.op≠18) || decide (0<=x.b/\x.b<=1000)) && (decide (x.op≠5) || decide (-1073741824<=x.a/\x.a<=1073741824)) && (decide (x.op≠13) || xbG X.cz.length x.a)
theorem xgY {X:QW}(hX:xaW X=0){l:List Fst}(h:∀ f∈l,epB X f=true->xnR X f=true):PickOk X l:=by
 have hf:∀ c k q,xcS X (epB X) l c k=some q->q.1.length<=500/\∀ x∈q.1,(x.op=18->0<=x.b/\x.b<=1000)/\(x.op=5->-1073741824<=x.a/\x.a<=1073741824)/\(x.op=13->xbG X.cz.length x.a=true):=fun c k q hq=>by
  obtain⟨f,h1,-,-,h4,rfl⟩:=xhC hq;have h2:=h f h1 h4;unfold xnR at h2;rw[Bool.and_eq_true,List.all_eq_true,decide_eq_true_eq] at h2;refine⟨h2.1,fun x hx=>?_⟩
  have h3:=h2.2 x hx;simp only[Bool.and_eq_true,Bool.or_eq_true,decide_eq_true_eq] at h3
  exact⟨fun e=>h3.1.1.resolve_left fun n=>n e,fun e=>h3.1.2.resolve_left fun n=>n e,fun e=>h3.2.resolve_left fun n=>n e⟩
 exact⟨fun fuel=>⟨fun c n m hm=>xf6 hX hm,fun c n q hq=>fun x hx=>⟨((hf c n q hq).2 x hx).2.1,((hf c n q hq).2 x hx).2.2⟩,xfH hX⟩,fun c k q hq=>⟨(hf c k q hq).1,fun x hx=>((hf c k q hq).2 x hx).1⟩⟩
theorem xjS {X:QW}(hX:xaW X=0){l:List Fst}(h:∀ f∈l,f.ez≠X.ez):PickOk X l:=xgY hX fun f h1 h2=>absurd (xm9 h2) (h f h1)
theorem xm1 {P Q R:Nat->Prop}(X:QW)(hX:xaW X=0)(s:QV)(name:ByteArray)(args:List QV)(fuel:Int){l:List Fst}(hl:∀ f∈l,f.ez≠X.ez)(cv hv av fv:Value)(w:World)(hC:xaf P w cv X.cz)(hH:xaA P w hv X.heap)(hA:xaG Q w av args)(hF:xcG R w fv l)(hn:name.size<=140737488351232) :
  Calls Tryz.prog 8 #[WV cv hv X.ez,ClV s name av,.int .i64 fuel,fv] w fun e w'=>PlPost w X (xdx X s name args fuel) e w':=by
 refine xno X hX s name args fuel (xjS hX hl) _ ?_ cv hv av fv w hC hH hA hF hn;rw[show xcS X (epB X) l=xgO from funext fun c=>funext fun k=>xkx hl c k,← xjD]
 rfl
theorem xj3 {w:World}{B:Nat}{x y z:Value}{t:TypeId}(h:w.heap[B]?=some (.cells #[x,y,z] t (0,0))):(w.cell? ⟨B,0,none⟩=some x/\w.cell? ⟨B,1,none⟩=some y/\w.cell? ⟨B,2,none⟩=some z)/\(∀ o,w.frozen? ⟨B,o,none⟩=false):=by
 refine⟨⟨?_,?_,?_⟩,fun o=>by unfold World.frozen?;simp[h]⟩<;>rw[qzB h]<;>rfl
theorem xoc (args:Array Value)(w:World):(callFunc 22 args).run Tryz.prog w=.ok (.enter 22 args) w:=xdH Tryz.func22 (by kernel_rfl) (by kernel_rfl) args w
theorem xpk (args:Array Value)(w:World):(callFunc 23 args).run Tryz.prog w=.ok (.enter 23 args) w:=xdH Tryz.func23 (by kernel_rfl) (by kernel_rfl) args w
theorem xmS {w:World}{B:Nat}{x y z u v:Value}{t:TypeId}(h:w.heap[B]?=some (.cells #[x,y,z,u,v] t (0,0))):w.cell? ⟨B,0,none⟩=some x/\w.cell? ⟨B,1,none⟩=some y/\w.cell? ⟨B,2,none⟩=some z/\w.cell? ⟨B,3,none⟩=some u/\w.cell? ⟨B,4,none⟩=some v:=by
 refine⟨?_,?_,?_,?_,?_⟩<;>rw[qzB h]<;>rfl
def AlC (wr:World)(r:Fst × Bool)(pv ov:Value)(wx:World):Prop:=
 ∃ (bf:Nat) (a:Option Addr) (cap:Nat),pv=.pointer (some ⟨bf,0,none⟩)/\ov=.bool r.2/\wx.heap[bf]?=some (.cells #[.int .i64 r.1.cls,.string r.1.name,.int .i64 r.1.ez,.int .i64 r.1.temps,.slice a r.1.code.length cap] 49 (0,0))/\Below wr.heap.size wr wx/\xaK (fun b=>wr.heap.size<=b) wx (.slice a r.1.code.length cap) r.1.code
theorem xls {wr U:World}{r:Fst × Bool}{bf:Nat}{a:Option Addr}{cap:Nat}{P:Nat->Prop}{u0 u1 u2 u3 u4:Value}(hb:Below wr.heap.size wr U)(hbf:wr.heap.size<=bf)(hU:U.heap[bf]?=some (.cells #[u0,u1,u2,u3,u4] 49 (0,0)))(hc:xaK P U (.slice a r.1.code.length cap) r.1.code)(hP:∀ b,P b->wr.heap.size<=b/\b≠bf):AlC wr r (.pointer (some ⟨bf,0,none⟩)) (.bool r.2) (xj9 U bf (.int .i64 r.1.cls) (.string r.1.name) (.int .i64 r.1.ez) (.int .i64 r.1.temps) (.slice a r.1.code.length cap)):=by
 refine⟨bf,a,cap,rfl,rfl,?_,xpw hb hbf,hc.keep xaV (Keeps.of_block fun b hb' _=>xpI (hP b hb').2) fun b hb'=>(hP b hb').1⟩
 unfold xj9;rw[xah (xah (xah (xah (xah hU _) _) _) _) _];rfl
theorem xmY {P P2:Nat->Prop}(X:QW)(hX:xaW X=0)(t:List QT)(cv hv tv:Value)(w:World)(hC:xaf P w cv X.cz)(hH:xaA P w hv X.heap)(hT:xbq P2 w tv t) :
  Calls Tryz.prog 9 #[WV cv hv X.ez,tv] w fun e w'=>∃ a cap,e=.returned (.slice a (xev X t X.cz.length).length cap)/\xcG (fun b=>w.heap.size<=b) w' (.slice a (xev X t X.cz.length).length cap) (xev X t X.cz.length)/\Below w.heap.size w w':=by
 obtain⟨ac,cc,rfl,hlc,hcc,-,hrowC0⟩:=id hC;obtain⟨ah,ch,rfl,-⟩:=id hH;obtain⟨att,ct,rfl,-⟩:=id hT;unfold maxLen at hcc;have h12:=xlL hX;have h8:=xic hX
 obtain⟨b1,o1,rfl⟩:∃ b1 o1,ac=some ⟨b1,o1,none⟩:=by
  have hl4:0<X.cz.length:=by
   unfold xaW at hX
   split at hX
   ·cases hX
   ·omega
  obtain⟨b,o,e,-⟩:=hrowC0 0 X.cz[0] (List.getElem?_eq_getElem hl4)
  exact⟨b,o,e⟩
 clear hrowC0;have hL0:=xog w (.cells #[.slice (some ⟨b1,o1,none⟩) X.cz.length cc,.slice ah X.heap.length ch,.int .i64 X.ez] 25);have hb0:=xaj w (.cells #[.slice (some ⟨b1,o1,none⟩) X.cz.length cc,.slice ah X.heap.length ch,.int .i64 X.ez] 25);have kb:(w.alloc (.cells #[.slice (some ⟨b1,o1,none⟩) X.cz.length cc,.slice ah X.heap.length ch,.int .i64 X.ez] 25)).heap[w.heap.size]?=some (.cells #[.slice (some ⟨b1,o1,none⟩) X.cz.length cc,.slice ah X.heap.length ch,.int .i64 X.ez] 25 (0,0)):=heap_alloc_new _ _;go_enter Tryz.func9,Tryz.ntmps9
 go_upto_region 2 with (fail)
 generalize w.alloc (.cells #[.slice (some ⟨b1,o1,none⟩) X.cz.length cc,.slice ah X.heap.length ch,.int .i64 X.ez] 25)=W0 at *;obtain⟨⟨k0,k1,k2⟩,-⟩:=xj3 kb;go_wp2;clear k0 k1 k2
 go_loopg [5,13] X.cz.length (fun g v iv wr=>∃ (j:Nat) (cs:List Value),j+g=X.cz.length/\iv=.int .i64 (j:Int)/\FaL W0 (w.heap.size+1) (xev X t j) cs v wr)
 case atStart=>exact⟨0,[],by omega,rfl,by simpa [xev] using hL0⟩
 case round=>
  clear hL0;obtain⟨j,cs,hj,rfl,hL⟩:=hrel;rename_i vo _;obtain⟨a,cap,rfl,hal,hac⟩:=hL.form;have hbw:Below w.heap.size w wr:=hb0.trans ⟨hL.bel.os,hL.bel.tape,hL.bel.output,hL.bel.size,fun b hb=>hL.bel.block b (by omega)⟩
  by_cases hlt:j<X.cz.length
  ·obtain⟨x,hx⟩:∃ x,X.cz[j]?=some x:=⟨_,List.getElem?_eq_getElem hlt⟩;have HX:=xb7 hx;obtain⟨ac2,cc2,e2,-,-,-,hrowC⟩:=hC.later xau hbw
   cases e2
   obtain⟨b2,o2,e3,-,u0,u1,u2,-,mv,u3,hms⟩:=hrowC j x hx
   cases e3
   obtain⟨am,cm,rfl,hlm,hcm,-,-⟩:=hms;simp only[Nat.add_zero] at u0;unfold maxLen at hcm;have HNM:Hid (xhb X j=x.mz.length):=by show _=_;unfold xhb;rw[hx]
   have hm8:x.mz.length<=8:=by rw[← HNM.out];exact h8 j
   have hj1:(j:Int)<(X.cz.length:Int):=by omega
   have hj0:(0:Int)<=(j:Int):=by omega
   have kb1:=(hL.bel.block w.heap.size (by omega)).trans kb
   obtain⟨⟨k0,k1,k2⟩,-⟩:=xj3 kb1;have HJ:=xb7 hj;have hL1:=hL;clear hrowC hx;go_wp2;clear u0 u1 u2 u3 k0 k1 k2 kb1
   go_loopg [5,23] x.mz.length (fun g v iv wr2=>∃ (i:Nat) (cs:List Value),i+g=x.mz.length/\iv=.int .i64 (i:Int)/\FaL W0 (w.heap.size+1) (xev X t j++xiN X t j i) cs v wr2)
   case atStart=>exact⟨0,cs,by omega,rfl,by simpa [xiN] using hL1⟩
   case round=>
    clear hL hL1 hbw;obtain⟨i,cs,hi,rfl,hL⟩:=hrel;rename_i vo2 _;obtain⟨a,cap,e5,hal,hac⟩:=hL.form;subst e5;have hbw:Below w.heap.size w wr:=hb0.trans ⟨hL.bel.os,hL.bel.tape,hL.bel.output,hL.bel.size,fun b hb=>hL.bel.block b (by omega)⟩
    have hwl:=hL.sz
    by_cases hlt2:i<x.mz.length
    ·have hln:(xev X t j++xiN X t j i).length<=200:=by
      rw[List.length_append];have:=xgE (X:=X) (t:=t) h8 j;have:=xgS (X:=X) (t:=t) j i
      omega
     have kb1:=(hL.bel.block w.heap.size (by omega)).trans kb
     obtain⟨⟨k0,k1,k2⟩,-⟩:=xj3 kb1;have HI:=xb7 hi;obtain⟨fs,HFS⟩:∃ fs,Hid (fs=xev X t j++xiN X t j i):=⟨_,rfl⟩;rw[← HFS.out] at hL hln hal ⊢
     go_upto_region 8 with (fail)
     have hSl:∀ w',Below wr.heap.size wr w'->w'.cell? ⟨w.heap.size,0,none⟩=some (.slice (some ⟨b1,o1,none⟩) X.cz.length cc)/\w'.cell? ⟨w.heap.size,1,none⟩=some (.slice ah X.heap.length ch)/\w'.cell? ⟨w.heap.size,2,none⟩=some (.int .i64 X.ez):=fun w' hb=>⟨qzA hb k0,qzA hb k1,qzA hb k2⟩
     have hd1:Below wr.heap.size wr wr.drew:=(Below.refl _ wr).drew;have hS0:=hSl _ hd1;clear k0 k1 k2 kb1
     go_cut [8,9] (fun pv ov wx=>AlC wr (xcu X (j:Int) (i:Int) (xbp X t (j:Int) (i:Int))) pv ov wx)
     case first=>
      refine xat (S:=fun w'=>w'.cell? ⟨w.heap.size,0,none⟩=some (.slice (some ⟨b1,o1,none⟩) X.cz.length cc)/\w'.cell? ⟨w.heap.size,1,none⟩=some (.slice ah X.heap.length ch)/\w'.cell? ⟨w.heap.size,2,none⟩=some (.int .i64 X.ez)) [] (by kernel_rfl) ?_
      refine tk 0 (⟨some 27,.load 25 (.tmp 2),25,_,_,none⟩) (WV (.slice (some ⟨b1,o1,none⟩) X.cz.length cc) (.slice ah X.heap.length ch) X.ez) rfl (hS0) (fun _ _ _ h=>h) rfl (by kernel_rfl) ?_ ?_
      ·rintro w⟨q0,q1,q2⟩;go_simp
      try simp only[Act.put,qzF,qzG,qzH]
      refine tk 1 (⟨some 28,.move (.tmp 6),3,_,_,none⟩) (.int .i64 (j:Int)) rfl (hS0) (fun _ _ _ h=>h) rfl (by kernel_rfl) ?_ ?_
      ·rintro w⟨q0,q1,q2⟩;go_simp
      try simp only[Act.put,qzF,qzG,qzH]
      refine tk 2 (⟨some 29,.move (.tmp 7),3,_,_,none⟩) (.int .i64 (i:Int)) rfl (hS0) (fun _ _ _ h=>h) rfl (by kernel_rfl) ?_ ?_
      ·rintro w⟨q0,q1,q2⟩;go_simp
      try simp only[Act.put,qzF,qzG,qzH]
      refine tk 3 (⟨some 30,.load 25 (.tmp 2),25,_,_,none⟩) (WV (.slice (some ⟨b1,o1,none⟩) X.cz.length cc) (.slice ah X.heap.length ch) X.ez) rfl (hS0) (fun _ _ _ h=>h) rfl (by kernel_rfl) ?_ ?_
      ·rintro w⟨q0,q1,q2⟩;go_simp
      try simp only[Act.put,qzF,qzG,qzH]
      refine tk 4 (⟨some 31,.move (.tmp 1),31,_,_,none⟩) (.slice att t.length ct) rfl (hS0) (fun _ _ _ h=>h) rfl (by kernel_rfl) ?_ ?_
      ·rintro w⟨q0,q1,q2⟩;go_simp
      try simp only[Act.put,qzF,qzG,qzH]
      refine tk 5 (⟨some 32,.move (.tmp 6),3,_,_,none⟩) (.int .i64 (j:Int)) rfl (hS0) (fun _ _ _ h=>h) rfl (by kernel_rfl) ?_ ?_
      ·rintro w⟨q0,q1,q2⟩;go_simp
      try simp only[Act.put,qzF,qzG,qzH]
      refine tk 6 (⟨some 33,.move (.tmp 7),3,_,_,none⟩) (.int .i64 (i:Int)) rfl (hS0) (fun _ _ _ h=>h) rfl (by kernel_rfl) ?_ ?_
      ·rintro w⟨q0,q1,q2⟩;go_simp
      try simp only[Act.put,qzF,qzG,qzH]
      refine xab (rs:=[7,12]) (by kernel_rfl) (by simp) ?_
      intro i hi;simp only[List.mem_cons,List.not_mem_nil,or_false] at hi
      rcases hi with hi | hi
      ·subst hi;refine xaL (o:=⟨some 34,.call ⟨.value (.func 23),#[.tmp 30,.tmp 31,.tmp 32,.tmp 33],#[25,31,3,3]⟩,87,_,_,none⟩) rfl (fun K' hK=>?_)
       refine xa0 rfl 23 (.func 23) #[.tmp 30,.tmp 31,.tmp 32,.tmp 33] _ rfl #[] rfl #[WV (.slice (some ⟨b1,o1,none⟩) X.cz.length cc) (.slice ah X.heap.length ch) X.ez,.slice att t.length ct,.int .i64 (j:Int),.int .i64 (i:Int)] (by simp[Act.eval,Act.put]) (xpk _ _) ?_
       refine (show Calls Tryz.prog 23 #[WV (.slice (some ⟨b1,o1,none⟩) X.cz.length cc) (.slice ah X.heap.length ch) X.ez,.slice att t.length ct,.int .i64 (j:Int),.int .i64 (i:Int)] wr.drew _ from (xg3 X t (j:Int) (i:Int) _ _ _ wr.drew (hC.later xau (xae hbw hd1)) (hH.later xaz (xae hbw hd1)) (hT.later xeo (xae hbw hd1))).mono ?_)
       rintro e w2 ⟨as_,cs,rfl,hSi,hbS⟩;refine⟨_,rfl,?_⟩;have hb2:Below wr.heap.size wr w2:=xae hd1 hbS;refine hK _ _ (fun _=>?_) ?_
       ·exact hSl _ hb2
       clear hK K'
       try simp only[Act.put,qzF,qzG,qzH]
       refine xab (rs:=[8,12]) (by kernel_rfl) (by simp) ?_
       intro i hi;simp only[List.mem_cons,List.not_mem_nil,or_false] at hi
       rcases hi with hi | hi
       ·subst hi;refine xaL (o:=⟨some 35,.call ⟨.value (.func 22),#[.tmp 27,.tmp 28,.tmp 29,.tmp 34],#[25,3,3,87]⟩,85,_,_,none⟩) rfl (fun K' hK=>?_)
        refine xa0 rfl 22 (.func 22) #[.tmp 27,.tmp 28,.tmp 29,.tmp 34] _ rfl #[] rfl #[WV (.slice (some ⟨b1,o1,none⟩) X.cz.length cc) (.slice ah X.heap.length ch) X.ez,.int .i64 (j:Int),.int .i64 (i:Int),.slice as_ (xbp X t (j:Int) (i:Int)).length cs] (by simp[Act.eval,Act.put]) (xoc _ _) ?_
        refine (show Calls Tryz.prog 22 #[WV (.slice (some ⟨b1,o1,none⟩) X.cz.length cc) (.slice ah X.heap.length ch) X.ez,.int .i64 (j:Int),.int .i64 (i:Int),.slice as_ (xbp X t (j:Int) (i:Int)).length cs] w2 _ from (xdD X hX (j:Int) (i:Int) (xbp X t (j:Int) (i:Int)) _ _ _ w2 (hC.later xau (xae hbw hb2)) (hH.later xaz (xae hbw hb2)) hSi).mono ?_)
        rintro e w3 ⟨af,cf,rfl,hKf,hbF⟩;refine⟨_,rfl,?_⟩;have hb3:Below wr.heap.size wr w3:=xae hb2 hbF;refine hK _ _ (fun _=>?_) ?_
        ·exact hSl _ hb3
        clear hK K'
        try simp only[Act.put,qzF,qzG,qzH]
        obtain⟨R,HM⟩:∃ R,Hid (R=xcu X (j:Int) (i:Int) (xbp X t (j:Int) (i:Int))):=⟨_,rfl⟩;simp only[← HM.out] at hKf ⊢;refine tk 9 (⟨some 26,.move (.tmp 35),85,_,_,none⟩) (.tuple #[FsV R.1 (.slice af R.1.code.length cf),.bool R.2]) rfl (hSl _ hb3) (fun _ _ _ h=>h) rfl (by kernel_rfl) ?_ ?_
        ·rintro w⟨q0,q1,q2⟩;go_simp
        try simp only[Act.put,qzF,qzG,qzH]
        refine tk 10 (⟨some 36,.extract (.tmp 26) 0,49,_,_,none⟩) (FsV R.1 (.slice af R.1.code.length cf)) rfl (hSl _ hb3) (fun _ _ _ h=>h) rfl (by kernel_rfl) ?_ ?_
        ·rintro w⟨q0,q1,q2⟩;go_simp
        try simp only[Act.put,qzF,qzG,qzH]
        refine tk 11 (⟨some 37,.extract (.tmp 26) 1,4,_,_,none⟩) (.bool R.2) rfl (hSl _ hb3) (fun _ _ _ h=>h) rfl (by kernel_rfl) ?_ ?_
        ·rintro w⟨q0,q1,q2⟩;go_simp
        try simp only[Act.put,qzF,qzG,qzH]
        refine xab (rs:=[12]) (by kernel_rfl) (by simp) ?_
        intro i hi;simp only[List.mem_cons,List.not_mem_nil,or_false] at hi;subst hi;refine xaL (o:=⟨some 8,.alloc 49,0,_,_,none⟩) rfl (fun K' hK=>?_)
        go_simp;refine hK _ _ (fun _=>?_) ?_
        ·exact hSl _ (xae hb3 (xaj _ _))
        clear hK K'
        try simp only[Act.put,qzF,qzG,qzH]
        have hUb:(w3.alloc (.cells #[.int .i64 0,.string ⟨#[]⟩,.int .i64 0,.int .i64 0,.slice none 0 0] 49)).heap[w3.heap.size]?=some (.cells #[.int .i64 0,.string ⟨#[]⟩,.int .i64 0,.int .i64 0,.slice none 0 0] 49 (0,0)):=heap_alloc_new _ _;have hbU:Below wr.heap.size wr (w3.alloc (.cells #[.int .i64 0,.string ⟨#[]⟩,.int .i64 0,.int .i64 0,.slice none 0 0] 49)):=xae hb3 (xaj _ _);have hUl:w3.heap.size<(w3.alloc (.cells #[.int .i64 0,.string ⟨#[]⟩,.int .i64 0,.int .i64 0,.slice none 0 0] 49)).heap.size:=by simp
        have hUw:wr.heap.size<=w3.heap.size:=hb3.size;have hUk:Below w3.heap.size w3 (w3.alloc (.cells #[.int .i64 0,.string ⟨#[]⟩,.int .i64 0,.int .i64 0,.slice none 0 0] 49)):=xaj _ _;generalize w3.alloc (.cells #[.int .i64 0,.string ⟨#[]⟩,.int .i64 0,.int .i64 0,.slice none 0 0] 49)=U at *;obtain⟨bf,HBF⟩:∃ bf,Hid (bf=w3.heap.size):=⟨_,rfl⟩;rw[← HBF.out] at hUb hUl hUw ⊢;obtain⟨r0,r1,r2,r3,r4⟩:=xmS hUb;have rf:=fun o=>xbB hUb o
        have HFIN:Hid (AlC wr R (.pointer (some ⟨bf,0,none⟩)) (.bool R.2) (xj9 U bf (.int .i64 R.1.cls) (.string R.1.name) (.int .i64 R.1.ez) (.int .i64 R.1.temps) (.slice af R.1.code.length cf))):=xls hbU hUw hUb (hKf.later xaV hUk) (fun b hb=>⟨by have:=hb.1;have:=hb2.size;omega,by have:=hb.2;have:=HBF.out;omega⟩)
        refine xab (rs:=[13]) (by kernel_rfl) (by simp) ?_
        intro i hi;simp only[List.mem_cons,List.not_mem_nil,or_false] at hi;subst hi;refine xaL (o:=⟨none,.store 49 (.tmp 8) (.tmp 36),0,_,_,none⟩) rfl (fun K' hK=>?_)
        go_simp;refine hK _ _ (fun _=>?_) ?_
        ·exact⟨xcI (hSl _ hbU).1 (by have:=hUw;have:=hwl;omega),xcI (hSl _ hbU).2.1 (by have:=hUw;have:=hwl;omega),xcI (hSl _ hbU).2.2 (by have:=hUw;have:=hwl;omega)⟩
        clear hK K'
        try simp only[Act.put,qzF,qzG,qzH]
        refine tk 14 (⟨some 9,.assign (.tmp 37),4,_,_,none⟩) (.bool R.2) rfl (⟨xcI (hSl _ hbU).1 (by have:=hUw;have:=hwl;omega),xcI (hSl _ hbU).2.1 (by have:=hUw;have:=hwl;omega),xcI (hSl _ hbU).2.2 (by have:=hUw;have:=hwl;omega)⟩) (fun _ _ _ h=>h) rfl (by kernel_rfl) ?_ ?_
        ·rintro w⟨q0,q1,q2⟩;go_simp
        try simp only[Act.put,qzF,qzG,qzH]
        refine xaw (by kernel_rfl) ?_ _
        try simp only[Act.put,qzF,qzG,qzH]
        go_wp2_with fail
        go_meet
        case rel=>rw[← HM.out];exact HFIN.out
       ·subst hi;refine xaL (o:=⟨some 8,.alloc 49,0,_,_,none⟩) rfl (fun K' hK=>?_)
        go_simp;refine hK _ _ (fun _=>?_) ?_
        ·exact hSl _ (xae hb2 (xaj _ _))
        clear hK K'
        try simp only[Act.put,qzF,qzG,qzH]
        have hUb:(w2.alloc (.cells #[.int .i64 0,.string ⟨#[]⟩,.int .i64 0,.int .i64 0,.slice none 0 0] 49)).heap[w2.heap.size]?=some (.cells #[.int .i64 0,.string ⟨#[]⟩,.int .i64 0,.int .i64 0,.slice none 0 0] 49 (0,0)):=heap_alloc_new _ _;have hbU:Below wr.heap.size wr (w2.alloc (.cells #[.int .i64 0,.string ⟨#[]⟩,.int .i64 0,.int .i64 0,.slice none 0 0] 49)):=xae hb2 (xaj _ _);have hUl:w2.heap.size<(w2.alloc (.cells #[.int .i64 0,.string ⟨#[]⟩,.int .i64 0,.int .i64 0,.slice none 0 0] 49)).heap.size:=by simp
        have hUw:wr.heap.size<=w2.heap.size:=hb2.size;have hUk:Below w2.heap.size w2 (w2.alloc (.cells #[.int .i64 0,.string ⟨#[]⟩,.int .i64 0,.int .i64 0,.slice none 0 0] 49)):=xaj _ _;generalize w2.alloc (.cells #[.int .i64 0,.string ⟨#[]⟩,.int .i64 0,.int .i64 0,.slice none 0 0] 49)=U at *;obtain⟨bf,HBF⟩:∃ bf,Hid (bf=w2.heap.size):=⟨_,rfl⟩;rw[← HBF.out] at hUb hUl hUw ⊢;refine xab (rs:=[8]) (by kernel_rfl) (by simp) ?_
        intro i hi;simp only[List.mem_cons,List.not_mem_nil,or_false] at hi;subst hi;refine xaL (o:=⟨some 35,.call ⟨.value (.func 22),#[.tmp 27,.tmp 28,.tmp 29,.tmp 34],#[25,3,3,87]⟩,85,_,_,none⟩) rfl (fun K' hK=>?_)
        refine xa0 rfl 22 (.func 22) #[.tmp 27,.tmp 28,.tmp 29,.tmp 34] _ rfl #[] rfl #[WV (.slice (some ⟨b1,o1,none⟩) X.cz.length cc) (.slice ah X.heap.length ch) X.ez,.int .i64 (j:Int),.int .i64 (i:Int),.slice as_ (xbp X t (j:Int) (i:Int)).length cs] (by simp[Act.eval,Act.put]) (xoc _ _) ?_
        refine (show Calls Tryz.prog 22 #[WV (.slice (some ⟨b1,o1,none⟩) X.cz.length cc) (.slice ah X.heap.length ch) X.ez,.int .i64 (j:Int),.int .i64 (i:Int),.slice as_ (xbp X t (j:Int) (i:Int)).length cs] U _ from (xdD X hX (j:Int) (i:Int) (xbp X t (j:Int) (i:Int)) _ _ _ U (hC.later xau (xae hbw hbU)) (hH.later xaz (xae hbw hbU)) (hSi.later xhV hUk)).mono ?_)
        rintro e w3 ⟨af,cf,rfl,hKf,hbF⟩;refine⟨_,rfl,?_⟩;have hb3:Below wr.heap.size wr w3:=xae hbU hbF;refine hK _ _ (fun _=>?_) ?_
        ·exact hSl _ hb3
        clear hK K'
        try simp only[Act.put,qzF,qzG,qzH]
        obtain⟨R,HM⟩:∃ R,Hid (R=xcu X (j:Int) (i:Int) (xbp X t (j:Int) (i:Int))):=⟨_,rfl⟩;simp only[← HM.out] at hKf ⊢;refine tk 9 (⟨some 26,.move (.tmp 35),85,_,_,none⟩) (.tuple #[FsV R.1 (.slice af R.1.code.length cf),.bool R.2]) rfl (hSl _ hb3) (fun _ _ _ h=>h) rfl (by kernel_rfl) ?_ ?_
        ·rintro w⟨q0,q1,q2⟩;go_simp
        try simp only[Act.put,qzF,qzG,qzH]
        refine tk 10 (⟨some 36,.extract (.tmp 26) 0,49,_,_,none⟩) (FsV R.1 (.slice af R.1.code.length cf)) rfl (hSl _ hb3) (fun _ _ _ h=>h) rfl (by kernel_rfl) ?_ ?_
        ·rintro w⟨q0,q1,q2⟩;go_simp
        try simp only[Act.put,qzF,qzG,qzH]
        refine tk 11 (⟨some 37,.extract (.tmp 26) 1,4,_,_,none⟩) (.bool R.2) rfl (hSl _ hb3) (fun _ _ _ h=>h) rfl (by kernel_rfl) ?_ ?_
        ·rintro w⟨q0,q1,q2⟩;go_simp
        try simp only[Act.put,qzF,qzG,qzH]
        obtain⟨r0,r1,r2,r3,r4⟩:=xmS (xad hUb hbF);have rf:=fun o=>xbB (xad hUb hbF) o
        have HFIN:Hid (AlC wr R (.pointer (some ⟨bf,0,none⟩)) (.bool R.2) (xj9 w3 bf (.int .i64 R.1.cls) (.string R.1.name) (.int .i64 R.1.ez) (.int .i64 R.1.temps) (.slice af R.1.code.length cf))):=xls hb3 hUw (xad hUb hbF) hKf (fun b hb=>⟨by have:=hb.1;have:=hbU.size;omega,by have:=hb.1;omega⟩)
        refine xab (rs:=[13]) (by kernel_rfl) (by simp) ?_
        intro i hi;simp only[List.mem_cons,List.not_mem_nil,or_false] at hi;subst hi;refine xaL (o:=⟨none,.store 49 (.tmp 8) (.tmp 36),0,_,_,none⟩) rfl (fun K' hK=>?_)
        go_simp;refine hK _ _ (fun _=>?_) ?_
        ·exact⟨xcI (hSl _ hb3).1 (by have:=hUw;have:=hwl;omega),xcI (hSl _ hb3).2.1 (by have:=hUw;have:=hwl;omega),xcI (hSl _ hb3).2.2 (by have:=hUw;have:=hwl;omega)⟩
        clear hK K'
        try simp only[Act.put,qzF,qzG,qzH]
        refine tk 14 (⟨some 9,.assign (.tmp 37),4,_,_,none⟩) (.bool R.2) rfl (⟨xcI (hSl _ hb3).1 (by have:=hUw;have:=hwl;omega),xcI (hSl _ hb3).2.1 (by have:=hUw;have:=hwl;omega),xcI (hSl _ hb3).2.2 (by have:=hUw;have:=hwl;omega)⟩) (fun _ _ _ h=>h) rfl (by kernel_rfl) ?_ ?_
        ·rintro w⟨q0,q1,q2⟩;go_simp
        try simp only[Act.put,qzF,qzG,qzH]
        refine xaw (by kernel_rfl) ?_ _
        try simp only[Act.put,qzF,qzG,qzH]
        go_wp2_with fail
        go_meet
        case rel=>rw[← HM.out];exact HFIN.out
      ·subst hi;refine xaL (o:=⟨some 8,.alloc 49,0,_,_,none⟩) rfl (fun K' hK=>?_)
       go_simp;refine hK _ _ (fun _=>?_) ?_
       ·exact hSl _ (xaj wr (.cells #[.int .i64 0,.string ⟨#[]⟩,.int .i64 0,.int .i64 0,.slice none 0 0] 49)).drew
       clear hK K'
       try simp only[Act.put,qzF,qzG,qzH]
       have hUb:((wr.alloc (.cells #[.int .i64 0,.string ⟨#[]⟩,.int .i64 0,.int .i64 0,.slice none 0 0] 49)).drew).heap[wr.heap.size]?=some (.cells #[.int .i64 0,.string ⟨#[]⟩,.int .i64 0,.int .i64 0,.slice none 0 0] 49 (0,0)):=heap_alloc_new wr _;have hbU:Below wr.heap.size wr ((wr.alloc (.cells #[.int .i64 0,.string ⟨#[]⟩,.int .i64 0,.int .i64 0,.slice none 0 0] 49)).drew):=(xaj wr _).drew;have hUl:wr.heap.size<((wr.alloc (.cells #[.int .i64 0,.string ⟨#[]⟩,.int .i64 0,.int .i64 0,.slice none 0 0] 49)).drew).heap.size:=by show wr.heap.size<(wr.alloc _).heap.size;simp
       generalize (wr.alloc (.cells #[.int .i64 0,.string ⟨#[]⟩,.int .i64 0,.int .i64 0,.slice none 0 0] 49)).drew=U at *;obtain⟨bf,HBF⟩:∃ bf,Hid (bf=wr.heap.size):=⟨_,rfl⟩;have hUw:wr.heap.size<=bf:=by rw[HBF.out];exact qzC _
       rw[← HBF.out] at hUb hUl ⊢;refine xab (rs:=[7]) (by kernel_rfl) (by simp) ?_
       intro i hi;simp only[List.mem_cons,List.not_mem_nil,or_false] at hi;subst hi;refine xaL (o:=⟨some 34,.call ⟨.value (.func 23),#[.tmp 30,.tmp 31,.tmp 32,.tmp 33],#[25,31,3,3]⟩,87,_,_,none⟩) rfl (fun K' hK=>?_)
       refine xa0 rfl 23 (.func 23) #[.tmp 30,.tmp 31,.tmp 32,.tmp 33] _ rfl #[] rfl #[WV (.slice (some ⟨b1,o1,none⟩) X.cz.length cc) (.slice ah X.heap.length ch) X.ez,.slice att t.length ct,.int .i64 (j:Int),.int .i64 (i:Int)] (by simp[Act.eval,Act.put]) (xpk _ _) ?_
       refine (show Calls Tryz.prog 23 #[WV (.slice (some ⟨b1,o1,none⟩) X.cz.length cc) (.slice ah X.heap.length ch) X.ez,.slice att t.length ct,.int .i64 (j:Int),.int .i64 (i:Int)] U _ from (xg3 X t (j:Int) (i:Int) _ _ _ U (hC.later xau (xae hbw hbU)) (hH.later xaz (xae hbw hbU)) (hT.later xeo (xae hbw hbU))).mono ?_)
       rintro e w2 ⟨as_,cs,rfl,hSi,hbS⟩;refine⟨_,rfl,?_⟩;have hb2:Below wr.heap.size wr w2:=xae hbU hbS;refine hK _ _ (fun _=>?_) ?_
       ·exact hSl _ hb2
       clear hK K'
       try simp only[Act.put,qzF,qzG,qzH]
       refine xab (rs:=[8]) (by kernel_rfl) (by simp) ?_
       intro i hi;simp only[List.mem_cons,List.not_mem_nil,or_false] at hi;subst hi;refine xaL (o:=⟨some 35,.call ⟨.value (.func 22),#[.tmp 27,.tmp 28,.tmp 29,.tmp 34],#[25,3,3,87]⟩,85,_,_,none⟩) rfl (fun K' hK=>?_)
       refine xa0 rfl 22 (.func 22) #[.tmp 27,.tmp 28,.tmp 29,.tmp 34] _ rfl #[] rfl #[WV (.slice (some ⟨b1,o1,none⟩) X.cz.length cc) (.slice ah X.heap.length ch) X.ez,.int .i64 (j:Int),.int .i64 (i:Int),.slice as_ (xbp X t (j:Int) (i:Int)).length cs] (by simp[Act.eval,Act.put]) (xoc _ _) ?_
       refine (show Calls Tryz.prog 22 #[WV (.slice (some ⟨b1,o1,none⟩) X.cz.length cc) (.slice ah X.heap.length ch) X.ez,.int .i64 (j:Int),.int .i64 (i:Int),.slice as_ (xbp X t (j:Int) (i:Int)).length cs] w2 _ from (xdD X hX (j:Int) (i:Int) (xbp X t (j:Int) (i:Int)) _ _ _ w2 (hC.later xau (xae hbw hb2)) (hH.later xaz (xae hbw hb2)) hSi).mono ?_)
       rintro e w3 ⟨af,cf,rfl,hKf,hbF⟩;refine⟨_,rfl,?_⟩;have hb3:Below wr.heap.size wr w3:=xae hb2 hbF;refine hK _ _ (fun _=>?_) ?_
       ·exact hSl _ hb3
       clear hK K'
       try simp only[Act.put,qzF,qzG,qzH]
       obtain⟨R,HM⟩:∃ R,Hid (R=xcu X (j:Int) (i:Int) (xbp X t (j:Int) (i:Int))):=⟨_,rfl⟩;simp only[← HM.out] at hKf ⊢;refine tk 9 (⟨some 26,.move (.tmp 35),85,_,_,none⟩) (.tuple #[FsV R.1 (.slice af R.1.code.length cf),.bool R.2]) rfl (hSl _ hb3) (fun _ _ _ h=>h) rfl (by kernel_rfl) ?_ ?_
       ·rintro w⟨q0,q1,q2⟩;go_simp
       try simp only[Act.put,qzF,qzG,qzH]
       refine tk 10 (⟨some 36,.extract (.tmp 26) 0,49,_,_,none⟩) (FsV R.1 (.slice af R.1.code.length cf)) rfl (hSl _ hb3) (fun _ _ _ h=>h) rfl (by kernel_rfl) ?_ ?_
       ·rintro w⟨q0,q1,q2⟩;go_simp
       try simp only[Act.put,qzF,qzG,qzH]
       refine tk 11 (⟨some 37,.extract (.tmp 26) 1,4,_,_,none⟩) (.bool R.2) rfl (hSl _ hb3) (fun _ _ _ h=>h) rfl (by kernel_rfl) ?_ ?_
       ·rintro w⟨q0,q1,q2⟩;go_simp
       try simp only[Act.put,qzF,qzG,qzH]
       obtain⟨r0,r1,r2,r3,r4⟩:=xmS (xad hUb (xae hbS hbF));have rf:=fun o=>xbB (xad hUb (xae hbS hbF)) o
       have HFIN:Hid (AlC wr R (.pointer (some ⟨bf,0,none⟩)) (.bool R.2) (xj9 w3 bf (.int .i64 R.1.cls) (.string R.1.name) (.int .i64 R.1.ez) (.int .i64 R.1.temps) (.slice af R.1.code.length cf))):=xls hb3 hUw (xad hUb (xae hbS hbF)) hKf (fun b hb=>⟨by have:=hb.1;have:=hb2.size;omega,by have:=hb.1;have:=hbS.size;omega⟩)
       refine xab (rs:=[13]) (by kernel_rfl) (by simp) ?_
       intro i hi;simp only[List.mem_cons,List.not_mem_nil,or_false] at hi;subst hi;refine xaL (o:=⟨none,.store 49 (.tmp 8) (.tmp 36),0,_,_,none⟩) rfl (fun K' hK=>?_)
       go_simp;refine hK _ _ (fun _=>?_) ?_
       ·exact⟨xcI (hSl _ hb3).1 (by have:=hUw;have:=hwl;omega),xcI (hSl _ hb3).2.1 (by have:=hUw;have:=hwl;omega),xcI (hSl _ hb3).2.2 (by have:=hUw;have:=hwl;omega)⟩
       clear hK K'
       try simp only[Act.put,qzF,qzG,qzH]
       refine tk 14 (⟨some 9,.assign (.tmp 37),4,_,_,none⟩) (.bool R.2) rfl (⟨xcI (hSl _ hb3).1 (by have:=hUw;have:=hwl;omega),xcI (hSl _ hb3).2.1 (by have:=hUw;have:=hwl;omega),xcI (hSl _ hb3).2.2 (by have:=hUw;have:=hwl;omega)⟩) (fun _ _ _ h=>h) rfl (by kernel_rfl) ?_ ?_
       ·rintro w⟨q0,q1,q2⟩;go_simp
       try simp only[Act.put,qzF,qzG,qzH]
       refine xaw (by kernel_rfl) ?_ _
       try simp only[Act.put,qzF,qzG,qzH]
       go_wp2_with fail
       go_meet
       case rel=>rw[← HM.out];exact HFIN.out
     case rest=>
      obtain⟨R,HM⟩:∃ R,Hid (xcu X (j:Int) (i:Int) (xbp X t (j:Int) (i:Int))=R):=⟨_,rfl⟩;rw[HM.out] at hcut;obtain⟨f,ok⟩:=R;obtain⟨bf,af,cf,rfl,rfl,hbx,hbc,hcf⟩:=hcut;dsimp only at hbx hcf ⊢;have hL2:=hL.later hbc;have hsz2:=hL2.sz;have hLv:=fun g hg=>(hL.own.lt g hg).2
      cases ok with
      | false=>
       have HE:Hid (fs=xev X t j++xiN X t j (i+1)):=by show _=_;rw[HFS.out,xfk,xnt HM.out];simp
       go_wp2
       go_roundg (x.mz.length-(i+1))
       case measure=>omega
       case rel=>exact⟨i+1,cs,by omega,by go_num,by rw[← HE.out];exact hL2⟩
      | true=>
       have HE:Hid (fs++[f]=xev X t j++xiN X t j (i+1)):=by show _=_;rw[HFS.out,xfk,xl6 HM.out,List.append_assoc]
       obtain⟨r0,r1,r2,r3,r4⟩:=xmS hbx
       go_wp2_with (at_builtin;refine xbe rfl (.tmp 39) (.tmp 41) 40 49 _ 5 64 rfl Tryz.underlying40 xoZ rfl (by omega) (w.heap.size+1) fs.length (.slice a fs.length cap) cs rfl (hL2.own.alloc _) wc.heap.size rfl [.int .i64 f.cls,.string f.name,.int .i64 f.ez,.int .i64 f.temps,.slice af f.code.length cf] rfl (heap_alloc_new _ _) (by intro u hu;simp only[List.mem_cons,List.not_mem_nil,or_false] at hu;rcases hu with h | h | h | h | h<;>(subst h;rfl)) (by unfold maxLen;omega) (by omega) (qzD hsz2 (by simp)) ?_;intro a3 cap3 w3 s1 s2 s3 s4;have hN:=xb7 ((hL2.later (xaj wc (.cells #[.int .i64 f.cls,.string f.name,.int .i64 f.ez,.int .i64 f.temps,.slice af f.code.length cf] 49))).add (f:=f) (kv:=.slice af f.code.length cf) (L:=wr.heap.size) (hcf.later xaV (xaj wc _)) (fun b hb=>hb) hwl hLv s1 s2 s3 s4);clear s1 s2 s3 s4)
       go_roundg (x.mz.length-(i+1))
       case measure=>omega
       case rel=>exact⟨i+1,_,by omega,by go_num,by rw[← HE.out];exact hN.out⟩
    ·obtain rfl:i=x.mz.length:=by omega
     have HE:Hid (xev X t j++xiN X t j x.mz.length=xev X t (j+1)):=by show _=_;rw[xg1,HNM.out]
     rw[HE.out] at hL ⊢;go_wp2
     go_roundg (X.cz.length-(j+1))
     case measure=>have:=HJ.out;omega
     case rel=>exact⟨j+1,cs,by omega,by go_num,hL⟩
  ·obtain rfl:j=X.cz.length:=by omega
   have hF:=hL.fasts (by have:=xgE (X:=X) (t:=t) h8 X.cz.length;omega)
   have HQ:=xb7 (hF.mono xgC (Q:=fun b=>w.heap.size<=b) fun b hb=>by omega)
   go_wp2
   go_ret
   exact⟨a,cap,rfl,HQ.out,hbw⟩
theorem xo1 (d:Nat)(k n k' n':Int)(w:World):(Op.equalIn (d+2) 27 (.agg #[.int .i64 k,.int .i64 n]) (.agg #[.int .i64 k',.int .i64 n'])).run Tryz.prog w=.ok (k == k' && n == n') w:=by
 have u3:=Tryz.underlying3;have a3:=Tryz.isAgg3;have z3:=Tryz.sizeOf3;have hS:Tryz.prog.underlying 27=some (.struct (Tryz.prog.fieldsOf 27)):=by kernel_rfl
 have hp:Tryz.prog.stoodInHeld 27=false:=by kernel_rfl
 rw[run_equalIn_struct w (d+1) 27 _ _ hS hp];simp only[Program.fieldsOf,Tryz.underlying27];go_simp
 by_cases h1:k=k'<;>by_cases h3:n=n'<;>simp[h1,h3]
theorem xo3 (x y:Ran)(w:World):(Op.equalIn 10000 37 (RnV x) (RnV y)).run Tryz.prog w=.ok (x.v.k == y.v.k && x.v.n == y.v.n && x.err == y.err && x.sz_ == y.sz_) w:=by
 have u3:=Tryz.underlying3;have a3:=Tryz.isAgg3;have z3:=Tryz.sizeOf3;have u31:=Tryz.underlying33;have a31:=Tryz.isAgg33;have z31:=Tryz.sizeOf33;have a27:=Tryz.isAgg27;have z27:=Tryz.sizeOf27;have hV:=xo1 9997;have hS:Tryz.prog.underlying 37=some (.struct (Tryz.prog.fieldsOf 37)):=by kernel_rfl
 have hp:Tryz.prog.stoodInHeld 37=false:=by kernel_rfl
 rw[show (10000:Nat)=9999+1 from rfl,run_equalIn_struct w 9999 37 _ _ hS hp]
 simp only[Program.fieldsOf,Tryz.underlying37];clear hS hp;go_simp
 by_cases h1:x.v.k=y.v.k<;>by_cases h2:x.v.n=y.v.n<;>by_cases h3:x.err=y.err<;>by_cases h4:x.sz_=y.sz_<;>simp[h1,h2,h3,h4]
theorem eqlR (x y:Ran)(w:World):(binOp .eql 37 (RnV x) (RnV y)).run Tryz.prog w=.ok (.bool (x.v.k == y.v.k && x.v.n == y.v.n && x.err == y.err && x.sz_ == y.sz_)) w:=by
 rw[run_eql_struct,xo3]
 rfl
theorem xjo (x:Ran):(x.v.k == x.v.k && x.v.n == x.v.n && x.err == x.err && x.sz_ == x.sz_)=true:=by simp
def xmJ (P:Nat->Prop)(w:World)(X:QW)(name:ByteArray)(super slots:Int)(hv:Value)(e:Ending)(w':World):Prop:=
 (xcs X.cz name super slots≠0/\e=.returned (.tuple #[WV (.slice none 0 0) (.slice none 0 0) 0,.int .i64 0,.int .i64 (xcs X.cz name super slots)])\/
  xcs X.cz name super slots=0/\∃ cv',e=.returned (.tuple #[WV cv' hv X.ez,.int .i64 X.cz.length,.int .i64 0])/\xaf (fun b=>P b\/w.heap.size<=b) w' cv' (xoi X name super slots).cz)/\Below w.heap.size w w'
theorem xlR {P:Nat->Prop}(X:QW)(name:ByteArray)(super slots:Int)(cv hv:Value)(w:World)(hn:name.size<=140737488351232)(hh:xaf P w cv X.cz)(hH:xaA P w hv X.heap)(ho:xbJ X.cz):Calls Tryz.prog 12 #[WV cv hv X.ez,.string name,.int .i64 super,.int .i64 slots] w fun e w'=>xmJ P w X name super slots hv e w':=by
 obtain⟨ad,cap,rfl,hl,hcap,hby,hrow⟩:=id hh;obtain⟨ah,ch,rfl,-,-,-,-⟩:=id hH;unfold maxLen at hcap;go_enter Tryz.func12,Tryz.ntmps12;go_wp2_with fail;refine (xdT name _ hn).mono ?_;rintro e w1 ⟨rfl,hb⟩;have hB:=xae (xbA _ _ _) hb;have a0:w1.cell? ⟨w.heap.size,0,none⟩=some (Value.slice ad X.cz.length cap):=qzA hb (qzA (xaj _ _) (by rw[xaa _ _ _ _ rfl];rfl))
 have a1:w1.cell? ⟨w.heap.size,1,none⟩=some (Value.slice ah X.heap.length ch):=qzA hb (qzA (xaj _ _) (by rw[xaa _ _ _ _ rfl];rfl))
 have a2:w1.cell? ⟨w.heap.size,2,none⟩=some (Value.int .i64 X.ez):=qzA hb (qzA (xaj _ _) (by rw[xaa _ _ _ _ rfl];rfl))
 have r:w1.heap[w.heap.size+1]?=some (.cells #[Value.slice none 0 0,Value.slice none 0 0,Value.int .i64 0] 25 (0,0)):=by rw[hb.block _ (by simp)];exact xbf _ _ _ (by simp)
 have RC:Hid (∀ W:World,Below w1.heap.size w1 W->(∀ o,W.cell? ⟨w.heap.size+1,o,none⟩=(#[Value.slice none 0 0,Value.slice none 0 0,Value.int .i64 0]:Array Value)[o]?)/\(∀ o,W.frozen? ⟨w.heap.size+1,o,none⟩=false)):=fun W hW=>by
  have hr:W.heap[w.heap.size+1]?=some (.cells #[Value.slice none 0 0,Value.slice none 0 0,Value.int .i64 0] 25 (0,0)):=by rw[hW.block _ (xai r)];exact r
  exact⟨fun o=>by rw[qzB hr],fun o=>by unfold World.frozen?;simp[hr]⟩
 have RB:Hid (∀ W:World,Below w1.heap.size w1 W->(∀ o,W.cell? ⟨w.heap.size,o,none⟩=(#[Value.slice ad X.cz.length cap,Value.slice ah X.heap.length ch,Value.int .i64 X.ez]:Array Value)[o]?)/\(∀ o,W.frozen? ⟨w.heap.size,o,none⟩=false)):=fun W hW=>by
  have r1:w1.heap[w.heap.size]?=some (.cells #[Value.slice ad X.cz.length cap,Value.slice ah X.heap.length ch,Value.int .i64 X.ez] 25 (0,0)):=by rw[hb.block _ (by simp;omega),(xaj _ _).block _ (by simp)];exact xbf _ _ _ rfl
  have hr:W.heap[w.heap.size]?=some (.cells #[Value.slice ad X.cz.length cap,Value.slice ah X.heap.length ch,Value.int .i64 X.ez] 25 (0,0)):=by rw[hW.block _ (xai r1)];exact r1
  exact⟨fun o=>by rw[qzB hr],fun o=>by unfold World.frozen?;simp[hr]⟩
 cases hnb:xbm name
 ·have HE:Hid (xcs X.cz name super slots=7):=by show _=_;unfold xcs;rw[if_pos (Or.inl hnb)]
  obtain⟨q0,qf⟩:=RC.out _ (Below.refl _ _);go_wp2;refine bodyPost_ret (v:=.tuple #[WV (.slice none 0 0) (.slice none 0 0) 0,.int .i64 0,.int .i64 7]) ?_ rfl ⟨Or.inl ⟨by rw[HE.out];decide,by rw[HE.out]⟩,?_⟩
  ·simp[results,Tryz.results12,go_sem,q0,qf]
  ·exact ((hB.setCell (by simp) _).setCell (by simp) _).setCell (by simp) _
 ·go_wp2
  go_loopg [21] X.cz.length (fun g i wr=>∃ j:Nat,j+g=X.cz.length/\i=.int .i64 j/\Below w1.heap.size w1 wr/\(∀ i x,i<j->X.cz[i]?=some x->eqN x.name name=false))
  case atStart=>exact⟨0,by omega,rfl,Below.refl _ _,fun i x h=>by omega⟩
  case round=>
   obtain⟨j,hg,rfl,hbr,hD⟩:=hrel;have HD:Hid (∀ i x,i<j->X.cz[i]?=some x->eqN x.name name=false):=hD;clear hD;have hBr:=xae hB hbr
   by_cases hj:j<X.cz.length
   ·obtain⟨x,hx⟩:∃ x,X.cz[j]?=some x:=⟨_,List.getElem?_eq_getElem hj⟩;obtain⟨b,o,rfl,-,v0,v1,v2,-,mv,v3,hM⟩:=hrow j x hx;obtain⟨ad2,cap2,rfl,-⟩:=id hM;have HX:Hid (X.cz[j]?=some x):=hx;have hj1:(j:Int)<(X.cz.length:Int):=by omega
    have hj0:(0:Int)<=(j:Int):=by omega
    clear hx;simp only[Nat.add_zero] at v0;replace v0:=qzA hBr v0;replace v1:=qzA hBr v1;replace v2:=qzA hBr v2;replace v3:=qzA hBr v3;have hB2:=xaj wr (Obj.cells #[Value.string x.name,Value.int .i64 x.super,Value.int .i64 x.slots,Value.slice ad2 x.mz.length cap2] 71)
    cases he:eqN x.name name
    ·have he':(x.name.toList == name.toList)=false:=he;go_wp2
     go_roundg (gk-1)
     case measure=>omega
     case rel=>
      refine⟨j+1,by omega,by go_num,xae hbr hB2,fun i y h hy=>?_⟩
      by_cases hij:i=j
      ·subst hij;rw[HX.out] at hy
       cases hy
       exact he
      ·exact HD.out i y (by omega) hy
    ·have he':(x.name.toList == name.toList)=true:=he
     have HE:Hid (xcs X.cz name super slots=7):=by
      show _=_
      unfold xcs;rw[if_pos (Or.inr _)];unfold xhy;rw[xeY HX.out he HD.out]
      simp
     obtain⟨q0,qf⟩:=RC.out _ (xae hbr hB2);go_wp2;refine bodyPost_ret (v:=.tuple #[WV (.slice none 0 0) (.slice none 0 0) 0,.int .i64 0,.int .i64 7]) ?_ rfl ⟨Or.inl ⟨by rw[HE.out];decide,by rw[HE.out]⟩,?_⟩
     ·simp[results,Tryz.results12,go_sem,q0,qf]
     ·exact (((xae hBr hB2).setCell (by simp) _).setCell (by simp) _).setCell (by simp) _
   ·obtain rfl:j=X.cz.length:=by omega
    have htk:xhy X.cz name=false:=by
     unfold xhy;rw[xds fun i y hy=>HD.out i y (xag hy) hy]
     rfl
    have t1:¬ (xbm name=false\/xhy X.cz name=true):=by rw[hnb,htk];simp
    obtain⟨q0,qf⟩:=RC.out _ hbr;have a0':=qzA hbr a0;have a1':=qzA hbr a1;have a2':=qzA hbr a2
    cases hhas:xfM X.cz.length super
    ·have HE:Hid (xcs X.cz name super slots=6):=by show _=_;unfold xcs;rw[if_neg t1,if_pos hhas]
     have HEND:Hid (∀ W:World,Below w.heap.size w W->xmJ P w X name super slots (.slice ah X.heap.length ch) (.returned (.tuple #[WV (.slice none 0 0) (.slice none 0 0) 0,.int .i64 0,.int .i64 6])) W):=fun W h=>⟨Or.inl ⟨by rw[HE.out];decide,by rw[HE.out]⟩,h⟩
     by_cases h0:super<0
     ·go_wp2;refine bodyPost_ret (v:=.tuple #[WV (.slice none 0 0) (.slice none 0 0) 0,.int .i64 0,.int .i64 6]) ?_ rfl (HEND.out _ (xba hBr (by omega) _ _ _))
      simp[results,Tryz.results12,go_sem,q0,qf]
     ·have h0':decide (super<0)=false:=by simpa using h0
      have h1:(X.cz.length:Int)<=super:=by simp[xfM] at hhas;omega
      go_wp2;refine bodyPost_ret (v:=.tuple #[WV (.slice none 0 0) (.slice none 0 0) 0,.int .i64 0,.int .i64 6]) ?_ rfl (HEND.out _ (xba hBr (by omega) _ _ _))
      simp[results,Tryz.results12,go_sem,q0,qf]
    ·have HE:Hid (xcs X.cz name super slots=if slots<0\/6-xaR X.cz super<slots\/xgs super=true then 3 else if 12<=X.cz.length then 5 else 0):=by show _=_;unfold xcs;rw[if_neg t1,if_neg (by rw[hhas];simp)]
     have h0:(0:Int)<=super:=by simp[xfM] at hhas;omega
     have h1:super<(X.cz.length:Int):=by simp[xfM] at hhas;omega
     have hsl:0<=xaR X.cz super:=(xcn ho (X.cz.length+1) super 0 (by omega)).1
     have hsl6:xaR X.cz super<=0+6*((X.cz.length+1:Nat):Int):=(xcn ho (X.cz.length+1) super 0 (by omega)).2
     have HEND:Hid (xcs X.cz name super slots=3->∀ W:World,Below w.heap.size w W->xmJ P w X name super slots (.slice ah X.heap.length ch) (.returned (.tuple #[WV (.slice none 0 0) (.slice none 0 0) 0,.int .i64 0,.int .i64 3])) W):=fun he W h=>⟨Or.inl ⟨by rw[he];decide,by rw[he]⟩,h⟩
     by_cases s0:slots<0
     ·go_wp2;refine bodyPost_ret (v:=.tuple #[WV (.slice none 0 0) (.slice none 0 0) 0,.int .i64 0,.int .i64 3]) ?_ rfl (HEND.out (by rw[HE.out,if_pos (Or.inl s0)]) _ (xba hBr (by omega) _ _ _))
      simp[results,Tryz.results12,go_sem,q0,qf]
     ·have s0':(0:Int)<=slots:=by omega
      by_cases s6:6<slots
      ·go_wp2;refine bodyPost_ret (v:=.tuple #[WV (.slice none 0 0) (.slice none 0 0) 0,.int .i64 0,.int .i64 3]) ?_ rfl (HEND.out (by rw[HE.out,if_pos (Or.inr (Or.inl (by omega)))]) _ (xba hBr (by omega) _ _ _))
       simp[results,Tryz.results12,go_sem,q0,qf]
      ·have s6':slots<=6:=by omega
       go_wp2_with fail;refine (xcj X super _ _ _ (hh.later xau hBr) (hH.later xaz hBr) ho).mono ?_;rintro e w4 ⟨rfl,hb4⟩;have hb4':=xae hbr hb4;replace a0':=qzA hb4 a0';replace a1':=qzA hb4 a1';replace a2':=qzA hb4 a2';replace hBr:=xae hBr hb4;clear q0 qf;obtain⟨q0,qf⟩:=RC.out _ hb4';clear hb4 hbr;have hwr:IntKind.i64.wrap (slots+xaR X.cz super)=slots+xaR X.cz super:=by rw[IntKind.wrap_i64];omega
       by_cases s1:6<slots+xaR X.cz super
       ·go_wp2;refine bodyPost_ret (v:=.tuple #[WV (.slice none 0 0) (.slice none 0 0) 0,.int .i64 0,.int .i64 3]) ?_ rfl (HEND.out (by rw[HE.out,if_pos (Or.inr (Or.inl (by omega)))]) _ (xba hBr (by omega) _ _ _))
        simp[results,Tryz.results12,go_sem,q0,qf]
       ·have s1':slots+xaR X.cz super<=6:=by omega
        have s1d:decide (6<slots+xaR X.cz super)=false:=by simpa using s1
        cases hpl:xgs super
        ·have hpl':¬ (0<super/\super<4):=by simp[xgs] at hpl;omega
         have hE2:Hid (xcs X.cz name super slots=if 12<=X.cz.length then 5 else 0):=by
          show _=_
          rw[HE.out,if_neg];rintro (h | h | h)
          ·omega
          ·omega
          ·rw[hpl] at h;cases h
         have pd:decide (0<super)=false\/decide (0<super)=true/\decide (super<4)=false:=by
          by_cases h:0<super
          ·right;exact⟨by simpa using h,by simp;omega⟩
          ·left;simpa using h
         by_cases s2:12<=X.cz.length
         ·have s2':(12:Int)<=(X.cz.length:Int):=by omega
          have HEND5:Hid (∀ W:World,Below w.heap.size w W->xmJ P w X name super slots (.slice ah X.heap.length ch) (.returned (.tuple #[WV (.slice none 0 0) (.slice none 0 0) 0,.int .i64 0,.int .i64 5])) W):=fun W h=>⟨Or.inl ⟨by rw[hE2.out,if_pos s2];decide,by rw[hE2.out,if_pos s2]⟩,h⟩
          rcases pd with pd | ⟨pd,pd'⟩
          all_goals
           go_wp2;refine bodyPost_ret (v:=.tuple #[WV (.slice none 0 0) (.slice none 0 0) 0,.int .i64 0,.int .i64 5]) ?_ rfl (HEND5.out _ (xba hBr (by omega) _ _ _))
           simp[results,Tryz.results12,go_sem,q0,qf]
         ·have s2':(X.cz.length:Int)<12:=by omega
          have HE0:Hid (xcs X.cz name super slots=0):=by show _=_;rw[hE2.out,if_neg s2]
          obtain⟨cs,hcs,hsrc⟩:=RowAt.cells hrow xau;have HSRC:Hid (∀ j u,cs[j]?=some u->∃ a,ad=some a/\w.cell? (a.add j)=some u):=hsrc;obtain⟨i0,hi,hz0,hz1,hz2⟩:=xbd xhP;have a0x:=fun x=>qzA (xaj w4 x) a0'
          have hz4:w.heap.size+1<w4.heap.size:=qzE (xai r) hb4'.size;clear hsrc
          rcases pd with pd | ⟨pd,pd'⟩
          all_goals
           go_wp2_with (first
            | (at_builtin;refine xbi rfl (.tmp 72) (.tmp 74) 22 71 zC 4 56 rfl Tryz.underlying22 xhP rfl (by decide) (by decide) w4.heap.size rfl (xbf _ _ _ rfl) ad X.cz.length cap rfl cs hcs.1 (fun j u hu=>by obtain⟨a,e,h⟩:=HSRC.out j u hu;exact⟨a,e,qzA (xae hBr (xaj _ _)) h⟩) hby ?_;intro gA capA wA hownA hgA hgAl hbA)
            | (at_builtin;refine wpList_append_lies _ rfl (.tmp 75) (.tmp 80) 22 rfl w4.heap.size 71 i0 _ 4 56 Tryz.underlying22 hi hz0 hz1 hz2 rfl (by decide) _ X.cz.length cs rfl (hownA.alloc _) ⟨_,0,none⟩ 1 1 [.string name,.int .i64 super,.int .i64 slots,.slice none 0 0] rfl rfl (fun j u hu=>(by rw[Addr.add_lit,Nat.zero_add];exact (xaa wA _ 71 _ rfl j).trans (by simpa using hu))) (by intro u hu;simp at hu;rcases hu with rfl | rfl | rfl | rfl<;>rfl) (by omega) (by unfold maxLen;omega) (by omega) (by have:=hbA.size;simp at this;simp;omega) _ rfl ?_;intro gg cap2 w2 hown2 hgr hor hlt2;have hbAs:=hbA.size;have hb2:=xck hownA (by simp at hbAs;omega) hgr;have hW2:Below w4.heap.size w4 w2:=(xae (xaj _ _) hbA).trans hb2;have hR2:=RC.out _ (xae hb4' hW2);have hB2:=RB.out _ (xae hb4' hW2);have q0:=hR2.1;have qf:=hR2.2;have c0:=hB2.1;have cf:=hB2.2;clear hR2 hB2))
           have hF:Below w.heap.size w ((((w2.setCell ⟨w.heap.size,0,none⟩ (.slice (some ⟨gg,0,none⟩) (X.cz.length+1) cap2)).setCell ⟨w.heap.size+1,0,none⟩ (.slice (some ⟨gg,0,none⟩) (X.cz.length+1) cap2)).setCell ⟨w.heap.size+1,1,none⟩ (.slice ah X.heap.length ch)).setCell ⟨w.heap.size+1,2,none⟩ (.int .i64 X.ez)):=xba ((xae hBr hW2).setCell (qzC _) _) (by omega) _ _ _
           refine bodyPost_ret (v:=.tuple #[WV (.slice (some ⟨gg,0,none⟩) (X.cz.length+1) cap2) (.slice ah X.heap.length ch) X.ez,.int .i64 X.cz.length,.int .i64 0]) ?_ rfl ⟨Or.inr ⟨HE0.out,_,rfl,?_⟩,hF⟩
           ·simp[results,Tryz.results12,go_sem,q0,qf,c0,cf]
           ·obtain⟨-,⟨e,h0⟩ | ⟨g,c,cur,e,h1,h2,h3,h4,h5,h6⟩⟩:=hown2
            ·cases h0
            ·cases e
             have hlen:(xoi X name super slots).cz.length=X.cz.length+1:=by simp[xoi]
             have hR:=Cells.row (bytes:=56) (cap:=cap2) (g:=gg) ((hcs.keep xau (.of_below hF) (Q:=fun b=>P b\/w.heap.size<=b) fun _ h=>Or.inl h).append xau (xde (P:=fun b=>P b\/w.heap.size<=b) ⟨name,super,slots,[]⟩ _ hn xbk)) xau (Or.inr (by omega)) (by rw[xac (by omega),xac (by omega),xac (by omega),xac (by omega)];exact h2) (by simpa using h6) (by simpa using h3) h4 (by simp;omega)
             rw[List.length_append] at hR
             exact hR
        ·have p1:0<super:=by simp[xgs] at hpl;omega
         have p2:super<4:=by simp[xgs] at hpl;omega
         go_wp2;refine bodyPost_ret (v:=.tuple #[WV (.slice none 0 0) (.slice none 0 0) 0,.int .i64 0,.int .i64 3]) ?_ rfl (HEND.out (by rw[HE.out,if_pos (Or.inr (Or.inr hpl))]) _ (xba hBr (by omega) _ _ _))
         simp[results,Tryz.results12,go_sem,q0,qf]
structure InsS where
 ms:List QM
 done:Bool
 was:Bool
def xdM (m:QM)(s:InsS)(x:QM):InsS:=
 if eqN x.name m.name=true then ⟨s.ms++[m],true,true⟩
 else if s.done=false/\gtN x.name m.name=true then ⟨s.ms++[m]++[x],true,s.was⟩
 else ⟨s.ms++[x],s.done,s.was⟩
def xna (m:QM)(xs:List QM):InsS:=xs.foldl (xdM m) ⟨[],false,false⟩
def xpG (m:QM)(xs:List QM):List QM:=if (xna m xs).done then (xna m xs).ms else (xna m xs).ms++[m]
theorem RisesM.tail {x:QM}{r:List QM}(h:RisesM (x :: r)):RisesM r:=fun i a b ha hb=>h (i+1) a b (by simpa using ha) (by simpa using hb)
theorem RisesM.head {x:QM}:∀ {r:List QM},RisesM (x :: r)->∀ y∈r,ltN x.name y.name=true
 | [],_,y,hy=>by simp at hy
 | z :: r,h,y,hy=>by
  have h1:ltN x.name z.name=true:=h 0 x z rfl rfl
  rcases List.mem_cons.1 hy with rfl | hy
  ·exact h1
  ·exact xhi h1 (RisesM.head h.tail y hy)
theorem xfb {m:QM}:∀ (r:List QM) (s:InsS),s.done=true->(∀ y∈r,ltN m.name y.name=true)->r.foldl (xdM m) s=⟨s.ms++r,true,s.was⟩
 | [],s,h,_=>by cases s;simp at h ⊢;exact h
 | x :: r,s,h,hr=>by
  have h1:xdM m s x=⟨s.ms++[x],true,s.was⟩:=by
   unfold xdM;rw[if_neg (by rw[xhg (hr x (by simp))];simp),if_neg (by simp[h]),h]
  rw[List.foldl_cons,h1,xfb r _ rfl fun y hy=>hr y (by simp[hy])]
  simp
theorem xfq {m:QM}:∀ (r pre:List QM),RisesM r->
  r.foldl (xdM m) ⟨pre,false,false⟩=(match r.findIdx? (fun y=>eqN y.name m.name) with
   | some i=>⟨pre++r.set i m,true,true⟩
   | none=>match r.findIdx? (fun y=>gtN y.name m.name) with
    | some i=>⟨pre++(r.take i++[m]++r.drop i),true,false⟩
    | none=>⟨pre++r,false,false⟩)
 | [],pre,_=>by simp
 | x :: r,pre,h=>by
  have hh:=h.head
  cases he:eqN x.name m.name
  ·cases hg:gtN x.name m.name
   ·have h1:xdM m ⟨pre,false,false⟩ x=⟨pre++[x],false,false⟩:=by simp[xdM,he,hg]
    rw[List.foldl_cons,h1,xfq r _ h.tail];rw[List.findIdx?_cons,List.findIdx?_cons,he,hg]
    cases h2:r.findIdx? (fun y=>eqN y.name m.name) with
    | some i=>simp
    | none=>
     cases h3:r.findIdx? (fun y=>gtN y.name m.name) with
     | some i=>simp
     | none=>simp
   ·have h1:xdM m ⟨pre,false,false⟩ x=⟨pre++[m]++[x],true,false⟩:=by simp[xdM,he,hg]
    have hm:∀ y∈r,ltN m.name y.name=true:=fun y hy=>xhi (xnX.1 hg) (hh y hy)
    rw[List.foldl_cons,h1,xfb r _ rfl hm];rw[List.findIdx?_cons,List.findIdx?_cons,he,hg]
    have h2:r.findIdx? (fun y=>eqN y.name m.name)=none:=by
     rw[List.findIdx?_eq_none_iff]
     exact fun y hy=>xhg (hm y hy)
    rw[h2]
    simp
  ·have h1:xdM m ⟨pre,false,false⟩ x=⟨pre++[m],true,true⟩:=by simp[xdM,he]
   have hm:∀ y∈r,ltN m.name y.name=true:=fun y hy=>xpb he (hh y hy)
   rw[List.foldl_cons,h1,xfb r _ rfl hm];rw[List.findIdx?_cons,he]
   simp
theorem xmB {m:QM}{xs:List QM}(h:RisesM xs):(xna m xs).was=decide (0<=xcd xs m.name):=by
 unfold xna xcd xcv;rw[xfq xs [] h]
 cases h2:xs.findIdx? (fun y=>eqN y.name m.name) with
 | some i=>simp
 | none=>cases h3:xs.findIdx? (fun y=>gtN y.name m.name)<;>simp
theorem xlY {m:QM}{xs:List QM}(h:RisesM xs):xpG m xs=xlP xs m:=by
 unfold xpG xna xlP xcd xlE xcv;rw[xfq xs [] h]
 cases h2:xs.findIdx? (fun y=>eqN y.name m.name) with
 | some i=>simp
 | none=>
  cases h3:xs.findIdx? (fun y=>gtN y.name m.name) with
  | some i=>
   have:¬ ((i:Int)<0):=by omega
   simp[this]
  | none=>simp
end Go.Proofs.YtaodadfahifbpaaGreat
