/- A part. -/
import Derived.Test.YtbafokihegegiaaGreatDoorM24
namespace Go.Proofs.YtbafokihegegiaaGreatDoor
open Go.ChangeShapes Go.WideShapes Go.ChangeAt Go.RowKit
set_option linter.unusedSimpArgs false
set_option linter.unusedVariables false
set_option maxHeartbeats 8000000
set_option maxRecDepth 8000
def bs (s:String):ByteArray:=s.toUTF8
def in_ (op a:Int):QI:=⟨op,a,0,0,⟨#[]⟩⟩
def sd (name:ByteArray)(a:Int):QI:=⟨14,a,0,0,name⟩
set_option maxRecDepth 100000
def nm (l:List UInt8):ByteArray:=⟨l.toArray⟩
def noM:QM:=⟨⟨#[]⟩,0,0,0,[]⟩
def xtd (name:ByteArray)(c slots:Int):StE:=⟨1,c,slots,name,noM,xa4,⟨#[]⟩,[]⟩
def xrb (c:Int)(name:ByteArray)(args temps:Int)(code:List QI):StE:=⟨2,c,0,⟨#[]⟩,⟨name,args,temps,0,code⟩,xa4,⟨#[]⟩,[]⟩
def xtb (c:Int):StE:=⟨3,c,0,⟨#[]⟩,noM,xa4,⟨#[]⟩,[]⟩
def xdj (kind:Int)(v:QV)(name:ByteArray)(args:List QV):StE:=⟨kind,0,0,⟨#[]⟩,noM,v,name,args⟩
def dpN:ByteArray:=nm [100,101,101,112]
def tnN:ByteArray:=nm [116,117,114,110]
set_option maxRecDepth 8000
abbrev InV (op a b c:Int)(name:ByteArray):Value:=.agg #[.int .i64 op,.int .i64 a,.int .i64 b,.int .i64 c,.string name]
theorem xca (op a:Int)(w:World):Calls Tryz.prog 27 #[.int .i64 op,.int .i64 a] w fun e w'=>e=.returned (InV op a 0 0 ⟨#[]⟩)/\Below w.heap.size w w':=by
 go_enter Tryz.func27,Tryz.ntmps27;go_wp2;refine bodyPost_ret (v:=InV op a 0 0 ⟨#[]⟩) ?_ rfl ⟨rfl,xai _ _⟩
 simp[results,Tryz.results27,go_sem]
theorem xe4 (name:ByteArray)(a:Int)(w:World):Calls Tryz.prog 28 #[.string name,.int .i64 a] w fun e w'=>e=.returned (InV 14 a 0 0 name)/\Below w.heap.size w w':=by
 go_enter Tryz.func28,Tryz.ntmps28;go_wp2;refine bodyPost_ret (v:=InV 14 a 0 0 name) ?_ rfl ⟨rfl,xai _ _⟩
 simp[results,Tryz.results28,go_sem]
theorem xeA (n:Int)(w:World):Calls Tryz.prog 25 #[.int .i64 n] w fun e w'=>e=.returned (VV ⟨3,n⟩)/\Below w.heap.size w w':=by
 go_enter Tryz.func25,Tryz.ntmps25;go_wp2;refine bodyPost_ret (v:=VV ⟨3,n⟩) ?_ rfl ⟨rfl,xai _ _⟩
 simp[results,Tryz.results25,go_sem]
theorem xkQ (n:Int)(w:World):Calls Tryz.prog 24 #[.int .i64 n] w fun e w'=>e=.returned (VV ⟨4,n⟩)/\Below w.heap.size w w':=by
 go_enter Tryz.func24,Tryz.ntmps24;go_wp2;refine bodyPost_ret (v:=VV ⟨4,n⟩) ?_ rfl ⟨rfl,xai _ _⟩
 simp[results,Tryz.results24,go_sem]
theorem xeK (c:Int)(name:ByteArray)(args temps:Int)(ad:Option Addr)(n k:Nat)(w:World)(code:List QI):Calls Tryz.prog 26 #[.int .i64 c,.string name,.int .i64 args,.int .i64 temps,.slice ad n k] w fun e w'=>e=.returned (StV (xrb c name args temps code) (.slice ad n k) (.slice none 0 0))/\Below w.heap.size w w':=by
 go_enter Tryz.func26,Tryz.ntmps26;go_wp2;refine bodyPost_ret (v:=StV (xrb c name args temps code) (.slice ad n k) (.slice none 0 0)) ?_ rfl ⟨rfl,xai _ _⟩
 simp[results,Tryz.results26,go_sem,xrb,xa4]
theorem xgl (kind:Int)(v:QV)(name:ByteArray)(ad:Option Addr)(n k:Nat)(w:World)(args:List QV):Calls Tryz.prog 23 #[.int .i64 kind,VV v,.string name,.slice ad n k] w fun e w'=>e=.returned (StV (xdj kind v name args) (.slice none 0 0) (.slice ad n k))/\Below w.heap.size w w':=by
 go_enter Tryz.func23,Tryz.ntmps23;go_wp2;refine bodyPost_ret (v:=StV (xdj kind v name args) (.slice none 0 0) (.slice ad n k)) ?_ rfl ⟨rfl,xbp _ _ _⟩
 simp[results,Tryz.results23,go_sem,xdj,noM]
def xdV (x:StE)(mv av:Value):List Value:=[.int .i64 x.kind,.string x.name,.int .i64 x.cls,.int .i64 x.slots,.string x.meth.name,.int .i64 x.meth.args,.int .i64 x.meth.temps,.int .i64 x.meth.prim,mv,.int .i64 x.sf.k,.int .i64 x.sf.n,.string x.cname,av]
theorem xcS {P:Nat->Prop}{w:World}{x:StE}{mv av:Value}(hN:NamesOk x)(hM:xaG P w mv x.meth.code)(hA:xaV P w av x.args):Cells xrV 13 P w (xdV x mv av) [x]:=
 Cells.one xbR rfl ⟨rfl,rfl,rfl,rfl,rfl,rfl,rfl,rfl,rfl,rfl,rfl,hN,mv,av,rfl,hM,rfl,hA⟩
theorem xi4 {P:Nat->Prop}{w:World}{g:Nat}{code:List QI}{t:TypeId}{cur:Array Value}(hg:w.heap[g]?=some (.cells cur t (0,0)))(hc:cur.toList=xbe code)(hn:∀ x∈code,x.name.size<=140737488351232)(hl:code.length<=100)(hP:P g):xaG P w (.slice (some ⟨g,0,none⟩) code.length code.length) code:=
 Cells.row (cs:=xbe code) (xf5 hn) xaU hP hg (by rw[hc];exact List.take_of_length_le (by rw[xdq];omega)) (qzC _) (by unfold maxLen;omega) (by omega)
section
variable {α:Type} {E:Lay α} {sz:Nat} {P:Nat->Prop} {w:World} {ops:Array Oper} {rest:List Oper} {o:Oper} {a:Act} {Q:Exit->Act->World->Prop}
theorem xts (G:Good E sz)(hgd:o.guard=none)(s x:Operand)(T:TypeId)(ho:o.op=.call { callee:=.builtin .append,args:=#[s,x],argTypes:=#[T,T] })
  (e:TypeId) (z:Value) (bytes:Nat) (hu:Tryz.prog.underlying T=some (.slice e)) (hI:(Tryz.prog.info? e).map (fun i=>(i.zero,i.size,i.bytes))=some (some z,sz,bytes)) (hz:z.cells.size=sz)
  (xs ys:List α) (b1 b2:Addr) (c2:Nat) (hs:a.eval s=.slice (some b1) xs.length xs.length) (hrow:IsRow E sz bytes P w (.slice (some b1) xs.length xs.length) xs) (hx:a.eval x=.slice (some b2) ys.length c2) (hrow2:IsRow E sz bytes P w (.slice (some b2) ys.length c2) ys)
  (hne:0<ys.length) (hb1:xs.length+ys.length<=maxLen) (hb2:(xs.length+ys.length)*bytes<=140737488351232)
  (h:∀ g cap w',IsRow E sz bytes (fun b=>P b\/w.heap.size<=b) w' (.slice (some ⟨g,0,none⟩) (xs.length+ys.length) cap) (xs++ys)->Below w.heap.size w w'->wpList Tryz.prog ops Q rest (a.put o.dst (.slice (some ⟨g,0,none⟩) (xs.length+ys.length) cap)) w'):wpList Tryz.prog ops Q (o :: rest) a w:=by
 obtain⟨i0,hi,hz0,hz1,hz2⟩:=xbu hI;obtain⟨ad,cap0,e0,hl,hcap,-,hr⟩:=hrow;obtain⟨ad2,cap2,e2,hl2,hcap2,-,hr2⟩:=hrow2;simp only[Value.slice.injEq] at e0 e2;obtain⟨rfl,-,-⟩:=e0;obtain⟨rfl,-,-⟩:=e2;obtain⟨cs,hcs,hsrc⟩:=hr.cells G;obtain⟨ds,hds,hsrc2⟩:=hr2.cells G;have hp:=G.pos;refine wpList_append_grows w hgd s x T ho e i0 z sz bytes hu hi hz0 hz1 hz2 hz hp (some b1) xs.length xs.length cs hs (fun hn=>by cases hn) hcs.1 (fun b hb j u hj=>by obtain⟨a',e',h'⟩:=hsrc j u hj;rw[hb] at e';cases e';exact h') b2 ys.length c2 ds hx hds.1 (fun j u hj=>by obtain⟨a',e',h'⟩:=hsrc2 j u hj;cases e';exact h') ?_ (by omega) hb1 (by omega) ?_
 ·intro u hu;obtain⟨j,hj,rfl⟩:=List.mem_iff_getElem.1 hu;have hdl:=hds.1;have hi:j / sz<ys.length:=Nat.div_lt_of_lt_mul (by rw[Nat.mul_comm,← hdl];exact hj)
  obtain⟨v,hv,hone⟩:=G.there (hds.2 (j / sz) ys[j / sz] (by simp[hi])) (j % sz) (Nat.mod_lt _ hp)
  replace hv:ds[j / sz*sz+j % sz]?=some v:=hv;rw[Nat.mul_comm (j / sz) sz,Nat.div_add_mod,List.getElem?_eq_getElem hj] at hv
  cases hv
  exact hone
 ·intro v' w' hown hgr;have hbel:Below w.heap.size w w':=(Below.refl _ _).grown hgr (qzC _) (fun k hk=>by cases hk)
  obtain⟨hl',⟨rfl,h0⟩ | ⟨g,cap,cur,rfl,h1,h2,h3,h4,h5,h6⟩⟩:=id hown
  ·omega
  ·have hC:Cells E sz (fun b=>P b\/w.heap.size<=b) w' (cs++ds) (xs++ys):=Cells.append (hcs.keep G (.of_below hbel) fun b h=>.inl h) G (hds.keep G (.of_below hbel) fun b h=>.inl h)
   have:=hC.row G (g:=g) (cap:=cap) (bytes:=bytes) (.inr h1) h2 (by simpa using h6) (by simpa using h3) h4 (by simpa using hb2)
   exact h g cap w' (by simpa using this) hbel
end
theorem xgc {P:Nat->Prop}{w:World}{g:Nat}{v:QV}{t:TypeId}(hg:w.heap[g]?=some (.cells #[.int .i64 v.k,.int .i64 v.n] t (0,0)))(hP:P g):xaV P w (.slice (some ⟨g,0,none⟩) 1 1) [v]:=
 Cells.row (cs:=[.int .i64 v.k,.int .i64 v.n]) (Cells.one xa7 rfl ⟨rfl,rfl⟩) xa7 hP hg rfl (qzC _) (by unfold maxLen;omega) (by simp)
theorem xl5 {x:StE}(h:x.name.size<=100/\x.meth.name.size<=100/\x.cname.size<=100):NamesOk x:=⟨by omega,by omega,by omega⟩
def xnr:List StE:=[xdj 4 ⟨3,1⟩ (nm [43]) [⟨3,1⟩]]
theorem xi3:xaW xcU xnr=[⟨0,1,⟨3,2⟩⟩]:=by kernel_rfl
theorem xlM {P:Nat->Prop}{w:World}{g n c:Nat}{rs:List ReE}(h:xhg P w (.slice (some ⟨g,0,none⟩) n c) rs){j:Nat}{r:ReE}(hj:rs[j]?=some r):w.cell? ⟨g,j*4,none⟩=some (.int .i64 r.err)/\w.cell? ⟨g,j*4+1,none⟩=some (.int .i64 r.n)/\w.cell? ⟨g,j*4+2,none⟩=some (.int .i64 r.v.k)/\w.cell? ⟨g,j*4+3,none⟩=some (.int .i64 r.v.n):=by
 obtain⟨ad,cap,e,-,-,-,hr⟩:=h;simp only[Value.slice.injEq] at e;obtain⟨rfl,-,-⟩:=e;obtain⟨b,o,e,-,h0,h1,h2,h3⟩:=hr j r hj;simp only[Option.some.injEq,Addr.mk.injEq] at e;obtain⟨rfl,rfl,-⟩:=e;simp only[Nat.zero_add,Nat.add_zero] at h0 h1 h2 h3
 exact⟨h0,h1,h2,h3⟩
theorem xlI {P:Nat->Prop}(l:List StE)(hk:∀ x∈l,1<=x.kind/\x.kind<=6)(n:Nat)(hn:l.length=n)(h60:n<=60)(v:Value)(w:World)(hl:xg2 P w v l)(rs:List ReE)(hrs:xaW xcU l=rs) :
  Calls Tryz.prog 11 #[v] w fun e w'=>∃ (b1 b2 b3 b4:Option Addr) (n1 j1 n2 j2 n3 j3 n4 j4:Nat) (ep:Int) (g:Nat),e=.returned (.tuple #[SeV (.slice b1 n1 j1) (.slice b2 n2 j2) ep (.slice b3 n3 j3) (.slice b4 n4 j4) (.slice none 0 0),.slice (some ⟨g,0,none⟩) n n,.int .i64 0])/\xhg (fun b=>w.heap.size<=b) w' (.slice (some ⟨g,0,none⟩) n n) rs/\Below w.heap.size w w':=by
 subst hn hrs;refine (xp6 l hk h60 v w hl).mono ?_;rintro e W ⟨cv,hv,lv,tv,g,rfl,hSe,hRe,hk⟩;obtain⟨b1,j1,rfl,-⟩:=id hSe.c;obtain⟨b2,j2,rfl,-⟩:=id hSe.h;obtain⟨b3,j3,rfl,-⟩:=id hSe.l;obtain⟨b4,j4,rfl,-⟩:=id hSe.t
 exact⟨b1,b2,b3,b4,_,j1,_,j2,_,j3,_,j4,_,g,rfl,hRe,hk⟩
theorem xoa (w:World):Calls Tryz.prog 21 #[] w fun e w'=>e=.returned (.bool true)/\Below w.heap.size w w':=by
 have hb:=Below.refl w.heap.size w;go_enter Tryz.func21,Tryz.ntmps21;go_wp2_with fail;refine (xeA 1 _).mono ?_;rintro e U ⟨rfl,hk⟩;replace hb:=xaf hb hk;clear hk;go_wp2_with fail;refine (xeA 1 _).mono ?_;rintro e U ⟨rfl,hk⟩;replace hb:=xaf hb hk;clear hk;go_wp2_with fail;refine (xgl 4 ⟨3,1⟩ _ _ _ _ _ [⟨3,1⟩]).mono ?_;rintro e V ⟨rfl,hk⟩;have hG:=xaa (heap_alloc_new U _) hk;have hg:=hb.size;replace hb:=xbo hb hk;clear hk;generalize U.heap.size=g1 at *;have hS:xg2 (fun b=>w.heap.size<=b) (V.alloc (.cells (xdV (xdj 4 ⟨3,1⟩ (nm [43]) [⟨3,1⟩]) (.slice none 0 0) (.slice (some ⟨g1,0,none⟩) 1 1)).toArray 56)) (.slice (some ⟨V.heap.size,0,none⟩) 1 1) xnr:=Cells.row (xcS (xl5 (by decide)) xcB (xgc (v:=⟨3,1⟩) (xaa hG (xai V _)) hg)) xbR hb.size (heap_alloc_new V _) rfl (qzC _) (by unfold maxLen;decide) (by decide)
 go_wp2_with fail;refine (xlI xnr (by decide) 1 rfl (by decide) _ _ hS _ xi3).mono ?_
 rintro e W ⟨b1,b2,b3,b4,n1,j1,n2,j2,n3,j3,n4,j4,ep,g,rfl,hRe,hk⟩;replace hb:=xbo hb hk;obtain⟨q0,q1,q2,q3⟩:=xlM hRe (j:=0) rfl;clear hRe hS hG hk;have hbA:=xai W (.cells #[.slice b1 n1 j1,.slice b2 n2 j2,.int .i64 ep,.slice b3 n3 j3,.slice b4 n4 j4,.slice none 0 0] 31);have hbW:=xaf hb hbA;have hSl:=fun (W':World) (hb:Below (W.alloc (.cells #[.slice b1 n1 j1,.slice b2 n2 j2,.int .i64 ep,.slice b3 n3 j3,.slice b4 n4 j4,.slice none 0 0] 31)).heap.size (W.alloc (.cells #[.slice b1 n1 j1,.slice b2 n2 j2,.int .i64 ep,.slice b3 n3 j3,.slice b4 n4 j4,.slice none 0 0] 31)) W')=>(⟨qzA (xaf hbA hb) q0,qzA (xaf hbA hb) q1,qzA (xaf hbA hb) q2,qzA (xaf hbA hb) q3⟩:W'.cell? ⟨g,0,none⟩=some (.int .i64 0)/\W'.cell? ⟨g,1,none⟩=some (.int .i64 1)/\W'.cell? ⟨g,2,none⟩=some (.int .i64 3)/\W'.cell? ⟨g,3,none⟩=some (.int .i64 2))
 clear q0 q1 q2 q3
 go_upto_region 2 with (fail)
 clear hbA hb;generalize W.alloc (.cells #[.slice b1 n1 j1,.slice b2 n2 j2,.int .i64 ep,.slice b3 n3 j3,.slice b4 n4 j4,.slice none 0 0] 31)=W at *;refine xat (S:=fun w'=>w'.cell? ⟨g,0,none⟩=some (.int .i64 0)/\w'.cell? ⟨g,1,none⟩=some (.int .i64 1)/\w'.cell? ⟨g,2,none⟩=some (.int .i64 3)/\w'.cell? ⟨g,3,none⟩=some (.int .i64 2)) [] (by kernel_rfl) ?_
 have hb:Below W.heap.size W W.drew:=(Below.refl _ W).drew;generalize W.drew=U at *
 repeat' first
  | (
    refine tk 0 (⟨some 14,.move (.tmp 3),33,_,_,none⟩) (.int .i64 0) rfl (hSl _ hb) (fun _ _ _ h=>h) rfl ?_ ?_ ?_
    ·decide +kernel
    ·intro w hSw;obtain⟨q0,q1,q2,q3⟩:=hSw;go_simp
    try simp only[Act.put,qzF,qzG,qzH])
  | (
    refine tk 1 (⟨some 15,.binOp .eql 33 (.tmp 14) (.const (.int .i64 0)) 33,4,_,_,none⟩) (.bool true) rfl (hSl _ hb) (fun _ _ _ h=>h) rfl ?_ ?_ ?_
    ·decide +kernel
    ·intro w hSw;obtain⟨q0,q1,q2,q3⟩:=hSw;go_simp
    try simp only[Act.put,qzF,qzG,qzH])
  | (
    refine tk 2 (⟨some 16,.move (.tmp 15),4,_,_,none⟩) (.bool true) rfl (hSl _ hb) (fun _ _ _ h=>h) rfl ?_ ?_ ?_
    ·decide +kernel
    ·intro w hSw;obtain⟨q0,q1,q2,q3⟩:=hSw;go_simp
    try simp only[Act.put,qzF,qzG,qzH])
  | (
    refine tk 3 (⟨some 17,.move (.tmp 2),32,_,_,some (2,true)⟩) (.slice (some ⟨g,0,none⟩) 1 1) rfl (hSl _ hb) (fun _ _ _ h=>h) rfl ?_ ?_ ?_
    ·decide +kernel
    ·intro w hSw;obtain⟨q0,q1,q2,q3⟩:=hSw;go_simp
    try simp only[Act.put,qzF,qzG,qzH])
  | (
    refine tk 4 (⟨some 18,.call ⟨.builtin .len,#[.tmp 17],#[32]⟩,3,_,_,some (2,true)⟩) (.int .i64 1) rfl (hSl _ hb) (fun _ _ _ h=>h) rfl ?_ ?_ ?_
    ·decide +kernel
    ·intro w hSw;obtain⟨q0,q1,q2,q3⟩:=hSw;go_simp
    try simp only[Act.put,qzF,qzG,qzH])
  | (
    refine tk 5 (⟨some 19,.binOp .eql 3 (.tmp 18) (.const (.int .i64 1)) 3,4,_,_,some (2,true)⟩) (.bool true) rfl (hSl _ hb) (fun _ _ _ h=>h) rfl ?_ ?_ ?_
    ·decide +kernel
    ·intro w hSw;obtain⟨q0,q1,q2,q3⟩:=hSw;go_simp
    try simp only[Act.put,qzF,qzG,qzH])
  | (
    refine tk 6 (⟨some 20,.pick (.tmp 16) (.tmp 19) (.const (.bool false)),4,_,_,none⟩) (.bool true) rfl (hSl _ hb) (fun _ _ _ h=>h) rfl ?_ ?_ ?_
    ·decide +kernel
    ·intro w hSw;obtain⟨q0,q1,q2,q3⟩:=hSw;go_simp
    try simp only[Act.put,qzF,qzG,qzH])
  | (
    refine tk 7 (⟨some 21,.move (.tmp 20),4,_,_,none⟩) (.bool true) rfl (hSl _ hb) (fun _ _ _ h=>h) rfl ?_ ?_ ?_
    ·decide +kernel
    ·intro w hSw;obtain⟨q0,q1,q2,q3⟩:=hSw;go_simp
    try simp only[Act.put,qzF,qzG,qzH])
  | (
    refine tk 8 (⟨some 22,.move (.tmp 2),32,_,_,some (7,true)⟩) (.slice (some ⟨g,0,none⟩) 1 1) rfl (hSl _ hb) (fun _ _ _ h=>h) rfl ?_ ?_ ?_
    ·decide +kernel
    ·intro w hSw;obtain⟨q0,q1,q2,q3⟩:=hSw;go_simp
    try simp only[Act.put,qzF,qzG,qzH])
  | (
    refine tk 9 (⟨some 23,.indexAddr 32 (.tmp 22) (.const (.int .i64 0)),0,_,_,some (7,true)⟩) (.pointer (some ⟨g,0,none⟩)) rfl (hSl _ hb) (fun _ _ _ h=>h) rfl ?_ ?_ ?_
    ·decide +kernel
    ·intro w hSw;obtain⟨q0,q1,q2,q3⟩:=hSw;go_simp
    try simp only[Act.put,qzF,qzG,qzH])
  | (
    refine tk 10 (⟨some 24,.fieldAddr 43 (.tmp 23) 2,0,_,_,some (7,true)⟩) (.pointer (some ⟨g,2,none⟩)) rfl (hSl _ hb) (fun _ _ _ h=>h) rfl ?_ ?_ ?_
    ·decide +kernel
    ·intro w hSw;obtain⟨q0,q1,q2,q3⟩:=hSw;go_simp
    try simp only[Act.put,qzF,qzG,qzH])
  | (
    refine tk 11 (⟨some 25,.load 41 (.tmp 24),41,_,_,some (7,true)⟩) (VV ⟨3,2⟩) rfl (hSl _ hb) (fun _ _ _ h=>h) rfl ?_ ?_ ?_
    ·decide +kernel
    ·intro w hSw;obtain⟨q0,q1,q2,q3⟩:=hSw;go_simp
    try simp only[Act.put,qzF,qzG,qzH])
  | (
    refine tk 13 (⟨some 27,.binOp .eql 41 (.tmp 25) (.tmp 26) 41,4,_,_,some (7,true)⟩) (.bool true) rfl (hSl _ hb) (fun _ _ _ h=>h) rfl ?_ ?_ ?_
    ·decide +kernel
    ·intro w hSw;obtain⟨q0,q1,q2,q3⟩:=hSw;go_simp
    try simp only[Act.put,qzF,qzG,qzH])
  | (
    refine tk 14 (⟨some 28,.pick (.tmp 21) (.tmp 27) (.const (.bool false)),4,_,_,none⟩) (.bool true) rfl (hSl _ hb) (fun _ _ _ h=>h) rfl ?_ ?_ ?_
    ·decide +kernel
    ·intro w hSw;obtain⟨q0,q1,q2,q3⟩:=hSw;go_simp
    try simp only[Act.put,qzF,qzG,qzH])
  | (
    refine tk 15 (⟨some 0,.assign (.tmp 28),4,_,_,none⟩) (.bool true) rfl (hSl _ hb) (fun _ _ _ h=>h) rfl ?_ ?_ ?_
    ·decide +kernel
    ·intro w hSw;obtain⟨q0,q1,q2,q3⟩:=hSw;go_simp
    try simp only[Act.put,qzF,qzG,qzH])
  | (
    refine rdy [12] rfl ?_ ⟨?_,trivial⟩
    ·decide +kernel)
  | (
    refine xa0 (o:=⟨some 26,.call ⟨.value (.func 25),#[.const (.int .i64 2)],#[3]⟩,41,_,_,some (7,true)⟩) rfl (fun K' hK=>?_)
    have hcall:=xeA 2 U;refine xft rfl 25 (.func 25) #[.const (.int .i64 2)] _ rfl #[] rfl #[.int .i64 2] (by simp[Act.eval,Act.put]) (xda Tryz.func25 (by kernel_rfl) (by kernel_rfl) _ _) ?_
    refine (show Calls Tryz.prog 25 #[.int .i64 2] U _ from hcall.mono ?_)
    rintro e U ⟨rfl,hcV⟩;refine⟨_,rfl,?_⟩;replace hb:=xaf hb hcV;refine hK _ _ (fun _=>?_) ?_
    ·exact hSl _ hb
    clear hK K' hcall hcV
    try simp only[Act.put,qzF,qzG,qzH])
  | (
    refine xaE ?_ ?_ _
    ·decide +kernel
    try simp only[Act.put,qzF,qzG,qzH]
    go_wp2;refine bodyPost_ret (v:=.bool true) ?_ rfl ⟨rfl,xaf hbW hb⟩
    simp[results,Tryz.results21,go_sem])
end Go.Proofs.YtbafokihegegiaaGreatDoor
