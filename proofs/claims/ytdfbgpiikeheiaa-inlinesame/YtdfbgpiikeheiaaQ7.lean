/- A part. -/
import Derived.Test.YtdfbgpiikeheiaaQ6
import Derived.Deep.RegionHeld
namespace Go.Proofs.Ytdfbgpiikeheiaa
open Go.ChangeShapes Go.WideShapes Go.ChangeAt Go.RowKit
set_option linter.unusedSimpArgs false
set_option linter.unusedVariables false
set_option maxHeartbeats 8000000
set_option maxRecDepth 8000
structure PcB (w:World)(leaf:QM)(kv:Value)(sf args temps first behind:Int)(w':World):Prop where
 l1:w'.cell? ⟨w.heap.size,1,none⟩=some (.int .i64 leaf.args)
 l2:w'.cell? ⟨w.heap.size,2,none⟩=some (.int .i64 leaf.temps)
 l4:w'.cell? ⟨w.heap.size,4,none⟩=some kv
 p0:w'.cell? ⟨w.heap.size+2,0,none⟩=some (.int .i64 sf)
 p1:w'.cell? ⟨w.heap.size+2,1,none⟩=some (.int .i64 args)
 p2:w'.cell? ⟨w.heap.size+2,2,none⟩=some (.int .i64 temps)
 p3:w'.cell? ⟨w.heap.size+2,3,none⟩=some (.int .i64 first)
 p4:w'.cell? ⟨w.heap.size+2,4,none⟩=some (.int .i64 behind)
theorem xdD {lo:Nat}{w w':World}(hb:Below lo w w'){b o:Nat}{v:Value}(hl:b<lo)(h:w.cell? ⟨b,o,none⟩=some v):w'.cell? ⟨b,o,none⟩=some v:=by
 unfold World.cell? at h ⊢;rw[hb.block b hl]
 exact h
theorem PcB.below {w:World}{leaf:QM}{kv:Value}{self args temps first behind:Int}{w' w'':World}(h:PcB w leaf kv self args temps first behind w')(hb:Below (w.heap.size+3) w' w''):PcB w leaf kv self args temps first behind w'':=
 ⟨xdD hb (by omega) h.l1,xdD hb (by omega) h.l2,xdD hb (by omega) h.l4,xdD hb (by omega) h.p0,xdD hb (by omega) h.p1,xdD hb (by omega) h.p2,xdD hb (by omega) h.p3,xdD hb (by omega) h.p4⟩
theorem xpO (w:World)(leaf:QM)(kv:Value)(g:QI)(self args temps first behind:Int):PcB w leaf kv self args temps first behind (((w.alloc (.cells #[.string leaf.name,.int .i64 leaf.args,.int .i64 leaf.temps,.int .i64 leaf.prim,kv] 55)).alloc (.cells #[.int .i64 g.op,.int .i64 g.a,.int .i64 g.b,.int .i64 g.c,.string g.name] 59)).alloc (.cells #[.int .i64 self,.int .i64 args,.int .i64 temps,.int .i64 first,.int .i64 behind] 101)):=
 ⟨qzA (xbP _ _ _) (xaa w #[.string leaf.name,.int .i64 leaf.args,.int .i64 leaf.temps,.int .i64 leaf.prim,kv] 55 _ rfl 1),qzA (xbP _ _ _) (xaa w #[.string leaf.name,.int .i64 leaf.args,.int .i64 leaf.temps,.int .i64 leaf.prim,kv] 55 _ rfl 2),qzA (xbP _ _ _) (xaa w #[.string leaf.name,.int .i64 leaf.args,.int .i64 leaf.temps,.int .i64 leaf.prim,kv] 55 _ rfl 4),xaa _ _ _ _ (by simp) 0,xaa _ _ _ _ (by simp) 1,xaa _ _ _ _ (by simp) 2,xaa _ _ _ _ (by simp) 3,xaa _ _ _ _ (by simp) 4⟩
abbrev OwnI (w:World)(B:Nat)(a:Option Addr)(cap:Nat)(code:List QI):Prop:=ownsAt w B 59 5 (.slice a code.length cap) code.length (xa9 code)
theorem OwnI.more {w':World}{B cap':Nat}{a':Option Addr}{code ys:List QI}{k:Nat}{vs:List Value}(h:ownsAt w' B 59 5 (.slice a' (code.length+k) cap') (code.length+k) (xa9 code++vs))(hk:ys.length=k)(hv:xa9 ys=vs):OwnI w' B a' cap' (code++ys):=by
 unfold OwnI;rw[xeJ,List.length_append,hk,hv]
 exact h
theorem xlZ {w:World}{B B' cap:Nat}{a:Option Addr}{code:List QI}(h:OwnI w B a cap code)(hb:B'<=B):OwnI w B' a cap code:=by
 obtain⟨h1,h2 | ⟨g,o,c,cur,e,h3,h4⟩⟩:=h
 ·exact⟨h1,Or.inl h2⟩
 ·exact⟨h1,Or.inr ⟨g,o,c,cur,e,qzD hb h3,h4⟩⟩
theorem xpg {lo:Nat}{w w' w'':World}(h:Below lo w w')(k:Below w'.heap.size w' w'')(hl:lo<=w'.heap.size):Below lo w w'':=h.trans ⟨k.os,k.tape,k.output,k.size,fun b hb=>k.block b (by omega)⟩
theorem xfr {lo:Nat}{w w':World}(h:Below lo w w')(o:Obj)(hl:lo<=w'.heap.size):Below lo w (w'.alloc o):=xpg h (xak _ _) hl
theorem xlE {P:Nat->Prop}(lname:ByteArray)(A T:Nat)(lprim:Int)(lc:List QI)(g:QI)(self tm first behind:Int)(kv:Value)(w:World)(hk:xaR P w kv lc)(hA4:A<=4)(hT6:T<=6)(hs:0<=self/\self<=100)(htm:0<=tm/\tm<=200)(hf:0<=first/\first<=1000)(hl60:lc.length<=60)
  (hx:∀ x∈lc,(x.op=2\/x.op=3\/x.op=11\/x.op=15\/x.op=16)->0<=x.a/\x.a<=1000) (R:List QI) (HR:Hid (R=[g,ins 21 0 0 0]++xdd (self+1) A++[ins 11 self 0 0]++xco tm T++lc.map (xay self (self+1) tm first behind))) :
  Calls Try.prog 35 #[MV ⟨lname,A,T,lprim,lc⟩ kv,IV g,PlV self (self+1) tm first behind] w fun e w'=>∃ a cap,e=.returned (.slice a R.length cap)/\OwnI w' w.heap.size a cap R/\Below w.heap.size w w':=by
 obtain⟨ak,ck,rfl,hlk,hck,-,hrow⟩:=id hk;unfold maxLen at hck;have hB0:=xpO w ⟨lname,A,T,lprim,lc⟩ (.slice ak lc.length ck) g self (self+1) tm first behind
 have hb3:=xfL w (.cells #[.string lname,.int .i64 (A:Int),.int .i64 (T:Int),.int .i64 lprim,.slice ak lc.length ck] 55) (.cells #[.int .i64 g.op,.int .i64 g.a,.int .i64 g.b,.int .i64 g.c,.string g.name] 59) (.cells #[.int .i64 self,.int .i64 (self+1),.int .i64 tm,.int .i64 first,.int .i64 behind] 101)
 have hz3:(((w.alloc (.cells #[.string lname,.int .i64 (A:Int),.int .i64 (T:Int),.int .i64 lprim,.slice ak lc.length ck] 55)).alloc (.cells #[.int .i64 g.op,.int .i64 g.a,.int .i64 g.b,.int .i64 g.c,.string g.name] 59)).alloc (.cells #[.int .i64 self,.int .i64 (self+1),.int .i64 tm,.int .i64 first,.int .i64 behind] 101)).heap.size=w.heap.size+3:=by simp
 go_enter Try.func35,Try.ntmps35
 go_upto_region 2 with (fail)
 generalize (((w.alloc (.cells #[.string lname,.int .i64 (A:Int),.int .i64 (T:Int),.int .i64 lprim,.slice ak lc.length ck] 55)).alloc (.cells #[.int .i64 g.op,.int .i64 g.a,.int .i64 g.b,.int .i64 g.c,.string g.name] 59)).alloc (.cells #[.int .i64 self,.int .i64 (self+1),.int .i64 tm,.int .i64 first,.int .i64 behind] 101))=W0 at *
 simp only[Nat.add_assoc,Nat.reduceAdd];have hb4:Below (w.heap.size+3) W0 (W0.alloc (.cells #[.int .i64 g.op,.int .i64 g.a,.int .i64 g.b,.int .i64 g.c,.string g.name,.int .i64 21,.int .i64 0,.int .i64 0,.int .i64 0,.string ⟨#[]⟩] 59)):=xfr (qzL _ _) _ (by omega)
 have hz4:w.heap.size+4<=(W0.alloc (.cells #[.int .i64 g.op,.int .i64 g.a,.int .i64 g.b,.int .i64 g.c,.string g.name,.int .i64 21,.int .i64 0,.int .i64 0,.int .i64 0,.string ⟨#[]⟩] 59)).heap.size:=by simp;omega
 have hO:OwnI (W0.alloc (.cells #[.int .i64 g.op,.int .i64 g.a,.int .i64 g.b,.int .i64 g.c,.string g.name,.int .i64 21,.int .i64 0,.int .i64 0,.int .i64 0,.string ⟨#[]⟩] 59)) (w.heap.size+3) (some ⟨w.heap.size+3,0,none⟩) 2 [g,ins 21 0 0 0]:=by
  refine⟨rfl,Or.inr ⟨w.heap.size+3,0,2,_,rfl,qzC _,by rw[← hz3];exact qzJ W0 _,qzC _,by unfold maxLen;omega,qzC _,rfl⟩⟩
 have hB:=hB0.below hb4;have hbw:Below w.heap.size w (W0.alloc (.cells #[.int .i64 g.op,.int .i64 g.a,.int .i64 g.b,.int .i64 g.c,.string g.name,.int .i64 21,.int .i64 0,.int .i64 0,.int .i64 0,.string ⟨#[]⟩] 59)):=xaf hb3 (xak _ _);generalize (W0.alloc (.cells #[.int .i64 g.op,.int .i64 g.a,.int .i64 g.b,.int .i64 g.c,.string g.name,.int .i64 21,.int .i64 0,.int .i64 0,.int .i64 0,.string ⟨#[]⟩] 59))=W at *;clear hB0 hb3 hz3 hb4 hrow W0;have hwA:IntKind.i64.wrap ((A:Int)-1)=(A:Int)-1:=xat (by omega) (by omega)
 have l1:=hB.l1;dsimp only at l1;go_wp2;clear l1
 go_loopg [7,8] A (fun gk cv nv wr=>∃ (a:Option Addr) (cap:Nat) (code:List QI),nv=.int .i64 ((gk:Int)-1)/\cv=.slice a code.length cap/\OwnI wr (w.heap.size+3) a cap code/\Hid (code++xdd (self+1) gk=[g,ins 21 0 0 0]++xdd (self+1) A)/\Below (w.heap.size+3) W wr/\code.length+gk=A+2)
 case atStart=>exact⟨_,_,_,rfl,rfl,hO,rfl,qzL _ _,by simp;omega⟩
 case round=>
  clear hO;obtain⟨a,cap,code,rfl,rfl,hO,HC,hb,hcl⟩:=hrel;have hzr:w.heap.size+4<=wr.heap.size:=qzD hz4 hb.size
  have hcap:code.length<=cap/\cap<=9223372036854775807:=by
   obtain⟨a',c',e,h1,h2⟩:=hO.form
   cases e;unfold maxLen at h2;omega
  cases gk with
  | zero=>
   have HC0:Hid (code=[g,ins 21 0 0 0]++xdd (self+1) A):=by show _=_;rw[← HC.out];simp[xdd]
   have hd0:decide ((0:Int)<=((0:Nat):Int)-1)=false:=by decide
   have p0:=(hB.below hb).p0;have l2:wr.cell? ⟨w.heap.size,2,none⟩=some (.int .i64 (T:Int)):=(hB.below hb).l2
   go_upto_region 7 with (at_builtin;refine xbf rfl (.tmp 30) (.tmp 34) 53 59 _ 5 48 rfl Try.underlying53 xnL rfl (by omega) (w.heap.size+3) code.length (.slice a code.length cap) (xa9 code) rfl (hO.alloc _) wr.heap.size rfl [.int .i64 11,.int .i64 self,.int .i64 0,.int .i64 0,.string ⟨#[]⟩] rfl (qzJ _ _) (by intro u hu;simp only[List.mem_cons,List.not_mem_nil,or_false] at hu;rcases hu with h | h | h | h | h<;>(subst h;rfl)) (by unfold maxLen;omega) (by omega) (by simp;omega) ?_;intro a1 cap1 w1 r1 r2 r3 r4)
   have hO1:=OwnI.more (ys:=[ins 11 self 0 0]) r1 rfl rfl;have hb1:=(xfr hb (.cells #[.int .i64 11,.int .i64 self,.int .i64 0,.int .i64 0,.string ⟨#[]⟩] 59) (by omega)).trans r3
   have hz1:w.heap.size+4<=w1.heap.size:=qzD hz4 hb1.size;clear r1 r2 r3 r4 hO HC p0 l2;obtain⟨C1,hC1⟩:∃ C1,C1=code++[ins 11 self 0 0]:=⟨_,rfl⟩;have hl1:code.length+1=C1.length:=by rw[hC1];simp
   have HLC:Hid (C1.length=A+3):=by show _=_;omega
   rw[← hC1] at hO1;rw[hl1];have HC1:Hid (C1=[g,ins 21 0 0 0]++xdd (self+1) A++[ins 11 self 0 0]):=by show _=_;rw[hC1,HC0.out]
   clear hC1 HC0 hl1 hcl hzr hcap;have l2:w1.cell? ⟨w.heap.size,2,none⟩=some (.int .i64 (T:Int)):=(hB.below hb1).l2;go_wp2;clear l2
   go_loopg [7,38] T (fun g2 cv iv wr=>∃ (i:Nat) (a:Option Addr) (cap:Nat),i+g2=T/\iv=.int .i64 (i:Int)/\cv=.slice a (C1++xco tm i).length cap/\OwnI wr (w.heap.size+3) a cap (C1++xco tm i)/\Below (w.heap.size+3) W wr)
   case atStart=>exact⟨0,a1,cap1,by omega,rfl,by simp[xco],by simpa [xco] using hO1,hb1⟩
   case round=>
    clear hO1 hb1 hz1 hb;obtain⟨i,a,cap,hi,rfl,rfl,hO,hb⟩:=hrel;have hzr:w.heap.size+4<=wr.heap.size:=qzD hz4 hb.size;have HCL:Hid ((C1++xco tm i).length=A+3+2*i):=by show _=_;rw[List.length_append,xdP,HLC.out]
    have hcl:(C1++xco tm i).length<=20:=by have:=HCL.out;omega
    have hcap:(C1++xco tm i).length<=cap/\cap<=9223372036854775807:=by
     obtain⟨a',c',e,h1,h2⟩:=hO.form
     cases e;unfold maxLen at h2;exact⟨h1,by omega⟩
    by_cases hlt:i<T
    ·have hd:decide ((i:Int)<(T:Int))=true:=by simp;omega
     have p2:=(hB.below hb).p2;have hw1:IntKind.i64.wrap (tm+(i:Int))=tm+(i:Int):=xat (by omega) (by omega)
     obtain⟨cd,hcd⟩:∃ cd,cd=C1++xco tm i:=⟨_,rfl⟩;have HCD:Hid (cd++[ins 6 0 0 0,ins 11 (tm+(i:Int)) 0 0]=C1++xco tm (i+1)):=by show _=_;rw[hcd,xdV];simp
     rw[← hcd] at hO hcl hcap HCL ⊢;clear hcd
     go_wp2_with (at_builtin;refine xfN rfl (.tmp 41) (.tmp 48) 53 59 _ 5 48 rfl Try.underlying53 xnL rfl (by omega) (w.heap.size+3) cd.length (.slice a cd.length cap) (xa9 cd) rfl (hO.alloc _) ⟨wr.heap.size,0,none⟩ 2 2 (by omega) rfl [.int .i64 6,.int .i64 0,.int .i64 0,.int .i64 0,.string ⟨#[]⟩,.int .i64 11,.int .i64 (tm+(i:Int)),.int .i64 0,.int .i64 0,.string ⟨#[]⟩] rfl (fun j u hj=>by rw[Addr.add_lit,Nat.zero_add,qzB (qzJ _ _)];simpa using hj) (by intro u hu;simp only[List.mem_cons,List.not_mem_nil,or_false] at hu;rcases hu with h | h | h | h | h | h | h | h | h | h<;>(subst h;rfl)) (by unfold maxLen;omega) (by omega) (by simp;omega) ?_;intro a' cap' w' r1 r2 r3 r4;have hO':=xcr (OwnI.more (ys:=[ins 6 0 0 0,ins 11 (tm+(i:Int)) 0 0]) r1 rfl rfl);have hb':=xcr ((xfr hb (.cells #[.int .i64 6,.int .i64 0,.int .i64 0,.int .i64 0,.string ⟨#[]⟩,.int .i64 11,.int .i64 (tm+(i:Int)),.int .i64 0,.int .i64 0,.string ⟨#[]⟩] 59) (by omega)).trans r3);clear r1 r2 r3 r4)
     go_roundg (T-(i+1))
     case measure=>omega
     case rel=>
      refine⟨i+1,_,_,by omega,by go_num,?_,by rw[← HCD.out];exact hO'.out,hb'.out⟩
      rw[← HCD.out];simp
    ·obtain rfl:i=T:=by omega
     have hd:decide ((i:Int)<(i:Int))=false:=by simp
     obtain⟨C2,hC2⟩:∃ C2,C2=C1++xco tm i:=⟨_,rfl⟩;have HC2:Hid (C2=[g,ins 21 0 0 0]++xdd (self+1) A++[ins 11 self 0 0]++xco tm i):=by show _=_;rw[hC2,HC1.out]
     rw[← hC2] at hO hcl hcap HCL ⊢;clear hC2 HC1 HLC hlt hi;have l4:wr.cell? ⟨w.heap.size,4,none⟩=some (.slice ak lc.length ck):=(hB.below hb).l4;go_wp2;clear l4
     go_loopg [7,54] lc.length (fun g3 cv iv wr=>∃ (k:Nat) (a:Option Addr) (cap:Nat),k+g3=lc.length/\iv=.int .i64 (k:Int)/\cv=.slice a (C2++(lc.take k).map (xay self (self+1) tm first behind)).length cap/\OwnI wr (w.heap.size+3) a cap (C2++(lc.take k).map (xay self (self+1) tm first behind))/\Below (w.heap.size+3) W wr)
     case atStart=>exact⟨0,a,cap,by omega,rfl,by simp,by simpa using hO,hb⟩
     case round=>
      clear hO hb hzr hcap;obtain⟨k,a,cap,hkk,rfl,rfl,hO,hb⟩:=hrel;have hzr:w.heap.size+4<=wr.heap.size:=qzD hz4 hb.size;have hcl2:(C2++(lc.take k).map (xay self (self+1) tm first behind)).length<=100:=by have:=HCL.out;simp;omega
      have hcap:(C2++(lc.take k).map (xay self (self+1) tm first behind)).length<=cap/\cap<=9223372036854775807:=by
       obtain⟨a',c',e,h1,h2⟩:=hO.form
       cases e;unfold maxLen at h2;exact⟨h1,by omega⟩
      have hbr:Below w.heap.size w wr:=hbw.trans ⟨hb.os,hb.tape,hb.output,hb.size,fun b hb'=>hb.block b (by omega)⟩
      by_cases hlt:k<lc.length
      ·have hxk:lc[k]?=some lc[k]:=by simp[hlt]
       obtain⟨ad2,cap2,e2,-,-,-,hrow⟩:=hk.later xa2 hbr
       cases e2
       obtain⟨b,o,rfl,-,u0,u1,u2,u3,u4,-⟩:=hrow k lc[k] hxk;have hxa:=hx lc[k] (List.getElem_mem hlt);have HTK:Hid (C2++(lc.take (k+1)).map (xay self (self+1) tm first behind)=C2++(lc.take k).map (xay self (self+1) tm first behind)++[xay self (self+1) tm first behind lc[k]]):=by show _=_;rw[List.take_add_one,hxk,List.map_append,← List.append_assoc];rfl
       generalize lc[k]=x at *;simp only[Nat.add_zero] at u0;obtain⟨cd,hcd⟩:∃ cd,cd=C2++(lc.take k).map (xay self (self+1) tm first behind):=⟨_,rfl⟩
       rw[← hcd] at hO hcl2 hcap HTK ⊢;clear hcd hrow hxk;have hk1:(k:Int)<(lc.length:Int):=by omega
       have hk0:(0:Int)<=(k:Int):=by omega
       have hbx:=xak wr (.cells #[.int .i64 x.op,.int .i64 x.a,.int .i64 x.b,.int .i64 x.c,.string x.name] 59);have hBx:=(hB.below hb).below (⟨hbx.os,hbx.tape,hbx.output,hbx.size,fun b hb'=>hbx.block b (by omega)⟩:Below (w.heap.size+3) _ _)
       obtain⟨-,-,-,p0,p1,p2,p3,p4⟩:=hBx;go_wp2_with fail;refine (xjZ self (self+1) tm first behind x _ (by omega) (by omega) hf hxa).mono ?_
       rintro e w1 ⟨rfl,hb1⟩;dsimp only;generalize xay self (self+1) tm first behind x=y at *
       have hO1:OwnI w1 (w.heap.size+3) a cap cd:=hO.keep fun g hg=>by rw[hb1.block g (by have:=(hO.lt g hg).2;simp;omega),hbx.block g (hO.lt g hg).2]
       have hbB:Below (w.heap.size+3) W w1:=xpg (xfr hb (.cells #[.int .i64 x.op,.int .i64 x.a,.int .i64 x.b,.int .i64 x.c,.string x.name] 59) (by omega)) hb1 (by simp;omega)
       have hz1:w.heap.size+4<=w1.heap.size:=qzD hz4 hbB.size;clear p0 p1 p2 p3 p4 u0 u1 u2 u3 u4 hO hb hbx hb1
       go_wp2_with (at_builtin;refine xbf rfl (.tmp 58) (.tmp 62) 53 59 _ 5 48 rfl Try.underlying53 xnL rfl (by omega) (w.heap.size+3) cd.length (.slice a cd.length cap) (xa9 cd) rfl (hO1.alloc _) w1.heap.size rfl [.int .i64 y.op,.int .i64 y.a,.int .i64 y.b,.int .i64 y.c,.string y.name] rfl (qzJ _ _) (by intro u hu;simp only[List.mem_cons,List.not_mem_nil,or_false] at hu;rcases hu with h | h | h | h | h<;>(subst h;rfl)) (by unfold maxLen;omega) (by omega) (by simp;omega) ?_;intro a' cap' w' r1 r2 r3 r4;have hO':=xcr (OwnI.more (ys:=[y]) r1 rfl rfl);have hb':=xcr ((xfr hbB (.cells #[.int .i64 y.op,.int .i64 y.a,.int .i64 y.b,.int .i64 y.c,.string y.name] 59) (by omega)).trans r3);clear r1 r2 r3 r4)
       go_roundg (lc.length-(k+1))
       case measure=>omega
       case rel=>
        refine⟨k+1,_,_,by omega,by go_num,?_,by rw[HTK.out];exact hO'.out,hb'.out⟩
        rw[HTK.out];simp
      ·obtain rfl:k=lc.length:=by omega
       have HE:Hid (C2++(lc.take lc.length).map (xay self (self+1) tm first behind)=R):=by show _=_;rw[HR.out,HC2.out,List.take_length]
       rw[HE.out] at hO ⊢;have HO:=xcr (xlZ (B':=w.heap.size) hO (by omega))
       have HBR:=xcr hbr;clear hO hbr hcl2 hcap;go_wp2
       go_ret
       exact⟨_,_,rfl,HO.out,HBR.out⟩
  | succ j=>
   have hnn:(((j+1:Nat):Int)-1)=(j:Int):=by omega
   rw[hnn];have hd0:decide ((0:Int)<=(j:Int))=true:=by simp
   have p1:=(hB.below hb).p1;have hw1:IntKind.i64.wrap (self+1+(j:Int))=self+1+(j:Int):=xat (by omega) (by omega)
   have hw2:IntKind.i64.wrap ((j:Int)-1)=(j:Int)-1:=xat (by omega) (by omega)
   go_wp2_with (at_builtin;refine xbf rfl (.tmp 22) (.tmp 28) 53 59 _ 5 48 rfl Try.underlying53 xnL rfl (by omega) (w.heap.size+3) code.length (.slice a code.length cap) (xa9 code) rfl (hO.alloc _) wr.heap.size rfl [.int .i64 11,.int .i64 (self+1+(j:Int)),.int .i64 0,.int .i64 0,.string ⟨#[]⟩] rfl (qzJ _ _) (by intro u hu;simp only[List.mem_cons,List.not_mem_nil,or_false] at hu;rcases hu with h | h | h | h | h<;>(subst h;rfl)) (by unfold maxLen;omega) (by omega) (by simp;omega) ?_;intro a' cap' w' r1 r2 r3 r4;have hO':=xcr (OwnI.more (ys:=[ins 11 (self+1+(j:Int)) 0 0]) r1 rfl rfl);have hb':=xcr ((xfr hb (.cells #[.int .i64 11,.int .i64 (self+1+(j:Int)),.int .i64 0,.int .i64 0,.string ⟨#[]⟩] 59) (by omega)).trans r3);clear r1 r2 r3 r4)
   go_roundg j
   case measure=>omega
   case rel=>exact⟨_,_,_,by go_num,by simp,hO'.out,by show _=_;rw[← HC.out];simp[xdd],hb'.out,by simp;omega⟩
theorem xmH {P:Nat->Prop}(leaf:QM)(g:QI)(self n:Int)(kv:Value)(w:World)(hk:xaR P w kv leaf.code)(ha:0<=leaf.args/\leaf.args<=4)(ht:0<=leaf.temps/\leaf.temps<=6)(hs:0<=self/\self<=100)(hn:0<=n/\n<=300)(hl60:leaf.code.length<=60)
  (hx:∀ x∈leaf.code,(x.op=2\/x.op=3\/x.op=11\/x.op=15\/x.op=16)->0<=x.a/\x.a<=1000) :
  Calls Try.prog 35 #[MV leaf kv,IV g,PlV self (self+1) (self+1+leaf.args) (xbw leaf n) (xbw leaf n+leaf.code.length)] w fun e w'=>∃ a cap,e=.returned (.slice a (xbu leaf g self n).length cap)/\OwnI w' w.heap.size a cap (xbu leaf g self n)/\Below w.heap.size w w':=by
 obtain⟨lname,largs,ltemps,lprim,lc⟩:=leaf;obtain⟨A,rfl⟩:∃ A:Nat,largs=(A:Int):=⟨largs.toNat,by simp only at ha;omega⟩
 obtain⟨T,rfl⟩:∃ T:Nat,ltemps=(T:Int):=⟨ltemps.toNat,by simp only at ht;omega⟩
 simp only at ha ht hl60 hx hk;refine xlE lname A T lprim lc g self _ _ _ kv w hk (by omega) (by omega) hs (by simp only;omega) (by unfold xbw;simp only;omega) hl60 hx _ ?_
 show _=_
 unfold xbu xfy
 simp
section
variable {P:Program} {md:Region.Mode} {ops:Array Oper} {Q:Exit->Act->World->Prop} {S:World->Prop}
def xdy (P:Program)(md:Region.Mode)(ops:Array Oper)(Q:Exit->Act->World->Prop)(S:World->Prop)(L:Nat):Nat->Array Bool->Act->World->Prop
 | 0,listed,a,w=>Region.ready md ops listed=[]/\Q .normal a w
 | fuel+1,listed,a,w=>
  (Region.ready md ops listed=[]->Q .normal a w)/\
  ∀ i∈Region.ready md ops listed,wpOp P ops Q i (fun a' w'=>(i≠L->S w')/\xdy P md ops Q S L fuel (listed.setIfInBounds i true) a' w') a w
theorem xex {L:Nat}:∀ (fuel:Nat) (listed:Array Bool) (a:Act) (w:World),xdy P md ops Q S L fuel listed a w->wpAny P md ops Q fuel listed a w
 | 0,_,_,_,h=>h
 | fuel+1,_,_,_,h=>⟨h.1,fun i hi=>wpOp_mono (fun a' w' h'=>xex fuel _ a' w' h'.2) (h.2 i hi)⟩
def xo6 (md:Region.Mode)(ops:Array Oper)(L:Nat):Bool:=
 match ops[L]? with
 | none=>false
 | some o=>(List.range ops.size).all fun k=>k == L || o.after.any fun e=>Region.binds md e && e.on == k
theorem xjO {L i:Nat}{listed:Array Bool}(h:xo6 md ops L=true)(hi:i∈Region.ready md ops listed)(hL:L∈Region.ready md ops listed):i=L:=by
 by_cases hne:i=L
 ·exact hne
 ·obtain⟨hjun,oj,hoj,hall⟩:=mem_ready.1 hL;obtain⟨hiun,oi,hoi,-⟩:=mem_ready.1 hi;unfold xo6 at h;rw[hoj] at h;simp only[List.all_eq_true,List.mem_range] at h;have hlt:i<ops.size:=(Array.getElem?_eq_some_iff.1 hoi).1;have:=h i hlt;simp only[Bool.or_eq_true,beq_iff_eq,hne,false_or,Array.any_eq_true,Bool.and_eq_true] at this;obtain⟨x,hx,hb,ho⟩:=this;have h1:=hall _ (Array.getElem_mem hx) hb;rw[ho] at h1
  rcases Nat.lt_or_ge i listed.size with h' | h'
  ·simp[h'] at hiun h1
   rw[hiun] at h1
   cases h1
  ·simp[Array.getElem?_eq_none h'] at h1
theorem xiy {L i:Nat}{oi:Oper}{v:Value}(hlast:xo6 md ops L=true)(hiL:i≠L)(hi:ops[i]?=some oi)(hsel:∀ (j:Nat) (o:Oper) cs b,ops[j]?=some o->o.op≠.select cs b)
  (hQ:∀ c a w,Q (.panic c) (a.put oi.dst v) w->Q (.panic c) a w) :
  ∀ (fuel:Nat) (listed:Array Bool) (a:Act) (w:World),
   (∀ j oj,ops[j]?=some oj->j≠i->listed.getD j true=false->(∀ e∈oj.after,Region.binds md e=true->e.on≠i)->oi.apart ops oj=true)->
   i∈Region.ready md ops listed->YieldsIf P ops S oi v a->S w->
   xdy P md ops Q S L fuel (listed.setIfInBounds i true) (a.put oi.dst v) w->xdy P md ops Q S L (fuel+1) listed a w:=by
 intro fuel
 induction fuel with
 | zero=>
  intro listed a w _ hr hy hS H;refine⟨fun h=>(by rw[h] at hr;cases hr),fun j hj=>?_⟩
  by_cases hji:j=i
  ·subst hji;exact hy.wpOp hi hS ⟨fun _=>hS,H⟩
  ·have:=ready_mono hj hji;rw[H.1] at this
   cases this
 | succ fuel ih=>
  intro listed a w hfree hr hy hS H;refine⟨fun h=>(by rw[h] at hr;cases hr),fun j hj=>?_⟩
  by_cases hji:j=i
  ·subst hji;exact hy.wpOp hi hS ⟨fun _=>hS,H⟩
  ·have hjL:j≠L:=fun e=>by subst e;exact hji (xjO hlast hr hj).symm
   have h1:=H.2 j (ready_mono hj hji);obtain⟨hjun,oj,hoj,hall⟩:=mem_ready.1 hj
   have hnot:∀ e∈oj.after,Region.binds md e=true->e.on≠i:=fun e he hb heq=>by
    have h1:=hall e he hb;have h0:=(mem_ready.1 hr).1;rw[heq] at h1
    rcases Nat.lt_or_ge i listed.size with h' | h'
    ·simp[h'] at h0 h1;rw[h0] at h1;cases h1
    ·simp[Array.getElem?_eq_none h'] at h1
   have h2:=wpOp_putIf hoj (hfree j oj hoj hji hjun hnot) (fun cs b=>hsel i oi cs b hi) (fun cs b=>hsel j oj cs b hoj) hQ hy h1
   have hfree':∀ k ok,ops[k]?=some ok->k≠i->(listed.setIfInBounds j true).getD k true=false->
     (∀ e∈ok.after,Region.binds md e=true->e.on≠i)->oi.apart ops ok=true:=fun k ok hk hki hun hno=>by
    refine hfree k ok hk hki ?_ hno
    by_cases hjk:j=k
    ·subst hjk;exact hjun
    ·rw[getD_set_ne true hjk] at hun;exact hun
   refine wpOp_mono (fun a' w' h3=>⟨fun _=>h3.2.1 hjL,ih (listed.setIfInBounds j true) a' w' hfree' (ready_mono hr (Ne.symm hji)) h3.1 (h3.2.1 hjL) ?_⟩) h2
   rw[Array.setIfInBounds_comm _ _ hji]
   exact h3.2.2
theorem xbI {L i:Nat}{oi:Oper}{v:Value}{fuel:Nat}{listed:Array Bool}{a:Act}{w:World}(hlast:xo6 md ops L=true)(hiL:(i == L)=false)(hi:ops[i]?=some oi)
  (hs:Region.noSelect ops=true) (hf:Region.free md ops listed i=true) (hr:(Region.ready md ops listed).contains i=true)
  (hQ:∀ c a w,Q (.panic c) (a.put oi.dst v) w->Q (.panic c) a w) (hy:YieldsIf P ops S oi v a) (hS:S w)
  (h:xdy P md ops Q S L fuel (listed.setIfInBounds i true) (a.put oi.dst v) w):xdy P md ops Q S L (fuel+1) listed a w:=
 xiy hlast (by simpa using hiL) hi (Region.noSelect_spec hs) hQ fuel listed a w (Region.free_spec hi hf) (by simpa using hr) hy hS h
theorem xjh {L:Nat}{listed:Array Bool}{a:Act}{w:World}(hr:Region.ready md ops listed=[])(h:Q .normal a w):∀ fuel,xdy P md ops Q S L fuel listed a w
 | 0=>⟨hr,h⟩
 | _+1=>⟨fun _=>h,by rw[hr];simp⟩
theorem xcV {L:Nat}{rs:List Nat}{fuel:Nat}{listed:Array Bool}{a:Act}{w:World}(hr:Region.ready md ops listed=rs)(hne:rs≠[])
  (h:∀ i∈rs,wpOp P ops Q i (fun a' w'=>(i≠L->S w')/\xdy P md ops Q S L fuel (listed.setIfInBounds i true) a' w') a w):xdy P md ops Q S L (fuel+1) listed a w:=
 ⟨fun h0=>absurd (hr ▸ h0) hne,hr ▸ h⟩
theorem xn0 {L i:Nat}{fuel:Nat}{listed:Array Bool}{a:Act}{w:World}{o:Oper}(ho:ops[i]?=some o)
  (h:∀ K':Act->World->Prop,(∀ a w,(i≠L->S w)->xdy P md ops Q S L fuel (listed.setIfInBounds i true) a w->K' a w)->if Region.wanted o (yielded ops a.tmps)=true then Oper.wp P o a w K' Q else K' (a.put o.dst undef) w) :
  wpOp P ops Q i (fun a' w'=>(i≠L->S w')/\xdy P md ops Q S L fuel (listed.setIfInBounds i true) a' w') a w:=
 wpOp_step ho (fun K' hK=>h K' (fun a w hS hW=>hK a w ⟨hS,hW⟩))
theorem xgK {id:Nat}{a:Act}{w:World}(L:Nat)(hm:P.follows .mixedOrders=true)
  (h:xdy P .any ops Q S L ops.size (Array.replicate ops.size false) a w.drew):(Code.region id ops true).wp P Q a w:=
 wp_region_any hm (xex _ _ _ _ h)
end
section
variable {P:Program} {md:Region.Mode} {ops:Array Oper} {Q:Exit->Act->World->Prop} {S:World->Prop}
def xbN (P:Program)(md:Region.Mode)(ops:Array Oper)(Q:Exit->Act->World->Prop)(S:World->Prop)(late:List Nat):Nat->Array Bool->Act->World->Prop
 | 0,listed,a,w=>Region.ready md ops listed=[]/\Q .normal a w
 | fuel+1,listed,a,w=>
  (Region.ready md ops listed=[]->Q .normal a w)/\
  ∀ i∈Region.ready md ops listed,wpOp P ops Q i (fun a' w'=>(late.contains i=false->S w')/\xbN P md ops Q S late fuel (listed.setIfInBounds i true) a' w') a w
theorem xev {late:List Nat}:∀ (fuel:Nat) (listed:Array Bool) (a:Act) (w:World),xbN P md ops Q S late fuel listed a w->wpAny P md ops Q fuel listed a w
 | 0,_,_,_,h=>h
 | fuel+1,_,_,_,h=>⟨h.1,fun i hi=>wpOp_mono (fun a' w' h'=>xev fuel _ a' w' h'.2) (h.2 i hi)⟩
def xq2 (md:Region.Mode)(ops:Array Oper)(i:Nat):Nat->Nat->Bool
 | 0,_=>false
 | n+1,k=>match ops[k]? with
  | none=>false
  | some o=>o.after.any fun e=>Region.binds md e && (e.on == i || xq2 md ops i n e.on)
def xq0 (md:Region.Mode)(ops:Array Oper)(listed:Array Bool):Prop:=∀ k o,ops[k]?=some o->listed.getD k true=true->∀ e∈o.after,Region.binds md e=true->listed.getD e.on true=true
def xoz (md:Region.Mode)(ops:Array Oper)(listed:Array Bool):Bool:=
 (List.range ops.size).all fun k=>match ops[k]? with
  | none=>true
  | some o=>!(listed.getD k true) || o.after.all fun e=>!(Region.binds md e) || listed.getD e.on true
theorem xkY {listed:Array Bool}(h:xoz md ops listed=true):xq0 md ops listed:=by
 intro k o hk hl e he hb;unfold xoz at h;rw[List.all_eq_true] at h;have:=h k (List.mem_range.2 (Array.getElem?_eq_some_iff.1 hk).1);rw[hk] at this;simp only[hl,Bool.not_true,Bool.false_or,Array.all_eq_true'] at this;have h1:=this e he
 simpa [hb] using h1
theorem xe2 {l:Array Bool}{i k:Nat}(h:l.getD k true=true):(l.setIfInBounds i true).getD k true=true:=by
 by_cases hik:i=k
 ·subst hik
  rcases Nat.lt_or_ge i l.size with h' | h'
  ·simp[h']
  ·simp[h']
 ·rw[getD_set_ne true hik];exact h
theorem xls {listed:Array Bool}{i:Nat}(hd:xq0 md ops listed)(hi:i∈Region.ready md ops listed):xq0 md ops (listed.setIfInBounds i true):=by
 intro k o hk hl e he hb;obtain⟨hiun,oi,hoi,hall⟩:=mem_ready.1 hi
 by_cases hki:i=k
 ·subst hki;rw[hoi] at hk
  cases hk
  have h1:=hall e he hb;refine xe2 ?_
  rcases Nat.lt_or_ge e.on listed.size with h' | h'
  ·simp[h'] at h1 ⊢;exact h1
  ·simp[Array.getElem?_eq_none h']
 ·rw[getD_set_ne true hki] at hl
  exact xe2 (hd k o hk hl e he hb)
theorem xhg {listed:Array Bool}{i:Nat}(hd:xq0 md ops listed):∀ (n k:Nat),xq2 md ops i n k=true->listed.getD k true=true->listed.getD i true=true
 | 0,k,h,_=>by cases h
 | n+1,k,h,hl=>by
  unfold xq2 at h
  split at h
  ·cases h
  ·rename_i o ho;rw[Array.any_eq_true'] at h;obtain⟨e,he,h⟩:=h;simp only[Bool.and_eq_true,Bool.or_eq_true,beq_iff_eq] at h;obtain⟨hb,h⟩:=h;have hl':=hd k o ho hl e he hb
   rcases h with h | h
   ·rw[← h];exact hl'
   ·exact xhg hd n e.on h hl'
theorem xlN {listed:Array Bool}{i l:Nat}(hd:xq0 md ops listed){n:Nat}(h:xq2 md ops i n l=true)(hl:l∈Region.ready md ops listed):listed.getD i true=true:=by
 cases n with
 | zero=>cases h
 | succ n=>
  obtain⟨hlun,o,ho,hall⟩:=mem_ready.1 hl;unfold xq2 at h;rw[ho] at h;simp only[] at h;rw[Array.any_eq_true'] at h;obtain⟨e,he,h⟩:=h;simp only[Bool.and_eq_true,Bool.or_eq_true,beq_iff_eq] at h;obtain⟨hb,h⟩:=h;have h1:=hall e he hb
  have hl':listed.getD e.on true=true:=by
   rcases Nat.lt_or_ge e.on listed.size with h' | h'
   ·simp[h'] at h1 ⊢;exact h1
   ·simp[Array.getElem?_eq_none h']
  rcases h with h | h
  ·rw[← h];exact hl'
  ·exact xhg hd n e.on h hl'
def xnl (md:Region.Mode)(ops:Array Oper)(late:List Nat)(i:Nat):Bool:=late.all fun l=>xq2 md ops i ops.size l
theorem xjH {late:List Nat}{listed:Array Bool}{i j:Nat}(h:xnl md ops late i=true)(hd:xq0 md ops listed)(hi:i∈Region.ready md ops listed)(hj:j∈Region.ready md ops listed):late.contains j=false:=by
 by_cases hc:late.contains j=true
 ·exfalso;unfold xnl at h;rw[List.all_eq_true] at h;have h1:=xlN hd (h j (by simpa using hc)) hj
  have h0:=(mem_ready.1 hi).1
  rcases Nat.lt_or_ge i listed.size with h' | h'
  ·simp[h'] at h0 h1;rw[h0] at h1;cases h1
  ·simp[Array.getElem?_eq_none h'] at h0
 ·simpa using hc
theorem xiS {late:List Nat}{i:Nat}{oi:Oper}{v:Value}(hlate:xnl md ops late i=true)(hi:ops[i]?=some oi)(hsel:∀ (j:Nat) (o:Oper) cs b,ops[j]?=some o->o.op≠.select cs b)
  (hQ:∀ c a w,Q (.panic c) (a.put oi.dst v) w->Q (.panic c) a w) :
  ∀ (fuel:Nat) (listed:Array Bool) (a:Act) (w:World),xq0 md ops listed->
   (∀ j oj,ops[j]?=some oj->j≠i->listed.getD j true=false->(∀ e∈oj.after,Region.binds md e=true->e.on≠i)->oi.apart ops oj=true)->
   i∈Region.ready md ops listed->YieldsIf P ops S oi v a->S w->
   xbN P md ops Q S late fuel (listed.setIfInBounds i true) (a.put oi.dst v) w->xbN P md ops Q S late (fuel+1) listed a w:=by
 intro fuel
 induction fuel with
 | zero=>
  intro listed a w _ _ hr hy hS H;refine⟨fun h=>(by rw[h] at hr;cases hr),fun j hj=>?_⟩
  by_cases hji:j=i
  ·subst hji;exact hy.wpOp hi hS ⟨fun _=>hS,H⟩
  ·have:=ready_mono hj hji;rw[H.1] at this
   cases this
 | succ fuel ih=>
  intro listed a w hd hfree hr hy hS H;refine⟨fun h=>(by rw[h] at hr;cases hr),fun j hj=>?_⟩
  by_cases hji:j=i
  ·subst hji;exact hy.wpOp hi hS ⟨fun _=>hS,H⟩
  ·have hjL:late.contains j=false:=xjH hlate hd hr hj;have h1:=H.2 j (ready_mono hj hji);obtain⟨hjun,oj,hoj,hall⟩:=mem_ready.1 hj
   have hnot:∀ e∈oj.after,Region.binds md e=true->e.on≠i:=fun e he hb heq=>by
    have h1:=hall e he hb;have h0:=(mem_ready.1 hr).1;rw[heq] at h1
    rcases Nat.lt_or_ge i listed.size with h' | h'
    ·simp[h'] at h0 h1;rw[h0] at h1;cases h1
    ·simp[Array.getElem?_eq_none h'] at h1
   have h2:=wpOp_putIf hoj (hfree j oj hoj hji hjun hnot) (fun cs b=>hsel i oi cs b hi) (fun cs b=>hsel j oj cs b hoj) hQ hy h1
   have hfree':∀ k ok,ops[k]?=some ok->k≠i->(listed.setIfInBounds j true).getD k true=false->
     (∀ e∈ok.after,Region.binds md e=true->e.on≠i)->oi.apart ops ok=true:=fun k ok hk hki hun hno=>by
    refine hfree k ok hk hki ?_ hno
    by_cases hjk:j=k
    ·subst hjk;exact hjun
    ·rw[getD_set_ne true hjk] at hun;exact hun
   refine wpOp_mono (fun a' w' h3=>⟨fun _=>h3.2.1 hjL,ih (listed.setIfInBounds j true) a' w' (xls hd hj) hfree' (ready_mono hr (Ne.symm hji)) h3.1 (h3.2.1 hjL) ?_⟩) h2
   rw[Array.setIfInBounds_comm _ _ hji]
   exact h3.2.2
theorem xee {late:List Nat}{i:Nat}{oi:Oper}{v:Value}{fuel:Nat}{listed:Array Bool}{a:Act}{w:World}(hlate:xnl md ops late i=true)(hd:xoz md ops listed=true)(hi:ops[i]?=some oi)
  (hs:Region.noSelect ops=true) (hf:Region.free md ops listed i=true) (hr:(Region.ready md ops listed).contains i=true)
  (hQ:∀ c a w,Q (.panic c) (a.put oi.dst v) w->Q (.panic c) a w) (hy:YieldsIf P ops S oi v a) (hS:S w)
  (h:xbN P md ops Q S late fuel (listed.setIfInBounds i true) (a.put oi.dst v) w):xbN P md ops Q S late (fuel+1) listed a w:=
 xiS hlate hi (Region.noSelect_spec hs) hQ fuel listed a w (xkY hd) (Region.free_spec hi hf) (by simpa using hr) hy hS h
theorem xaz {late:List Nat}{listed:Array Bool}{a:Act}{w:World}(hr:Region.ready md ops listed=[])(h:Q .normal a w):∀ fuel,xbN P md ops Q S late fuel listed a w
 | 0=>⟨hr,h⟩
 | _+1=>⟨fun _=>h,by rw[hr];simp⟩
theorem xab {late:List Nat}{rs:List Nat}{fuel:Nat}{listed:Array Bool}{a:Act}{w:World}(hr:Region.ready md ops listed=rs)(hne:rs≠[])
  (h:∀ i∈rs,wpOp P ops Q i (fun a' w'=>(late.contains i=false->S w')/\xbN P md ops Q S late fuel (listed.setIfInBounds i true) a' w') a w):xbN P md ops Q S late (fuel+1) listed a w:=
 ⟨fun h0=>absurd (hr ▸ h0) hne,hr ▸ h⟩
theorem xaN {late:List Nat}{i:Nat}{fuel:Nat}{listed:Array Bool}{a:Act}{w:World}{o:Oper}(ho:ops[i]?=some o)
  (h:∀ K':Act->World->Prop,(∀ a w,(late.contains i=false->S w)->xbN P md ops Q S late fuel (listed.setIfInBounds i true) a w->K' a w)->if Region.wanted o (yielded ops a.tmps)=true then Oper.wp P o a w K' Q else K' (a.put o.dst undef) w) :
  wpOp P ops Q i (fun a' w'=>(late.contains i=false->S w')/\xbN P md ops Q S late fuel (listed.setIfInBounds i true) a' w') a w:=
 wpOp_step ho (fun K' hK=>h K' (fun a w hS hW=>hK a w ⟨hS,hW⟩))
theorem xgi {S':World->Prop}{late late':List Nat}:∀ (fuel:Nat) (listed:Array Bool) (a:Act) (w:World),(∀ i,i∈Region.ready md ops listed->late.contains i=true)->(∀ i,late.contains i=false->listed.getD i true=true)->
  xbN P md ops Q S' late' fuel listed a w->xbN P md ops Q S late fuel listed a w
 | 0,_,_,_,_,_,h=>h
 | fuel+1,listed,a,w,h0,h1,h=>⟨h.1,fun i hi=>wpOp_mono (fun a' w' h'=>⟨fun hl=>(by rw[h0 i hi] at hl;cases hl),xgi fuel _ a' w' (fun j hj=>by
   by_cases hc:late.contains j=true
   ·exact hc
   ·exfalso;have:=h1 j (by simpa using hc)
    have h2:=(mem_ready.1 hj).1;have h3:=xe2 (i:=i) this
    rcases Nat.lt_or_ge j (listed.setIfInBounds i true).size with h' | h'
    ·simp only[Array.getD_eq_getD_getElem?,Array.getElem?_eq_getElem h',Option.getD_some] at h2 h3;rw[h2] at h3;cases h3
    ·rw[Array.getD_eq_getD_getElem?,Array.getElem?_eq_none h'] at h2;cases h2) (fun j hj=>xe2 (h1 j hj)) h'.2⟩) (h.2 i hi)⟩
def xq4 (ops:Array Oper)(late:List Nat)(listed:Array Bool):Bool:=listed.size == ops.size && (List.range ops.size).all fun i=>late.contains i || listed.getD i true
theorem xcN {S':World->Prop}{late late':List Nat}{fuel:Nat}{listed:Array Bool}{a:Act}{w:World}(ho:xq4 ops late listed=true)(h:xbN P md ops Q S' late' fuel listed a w):xbN P md ops Q S late fuel listed a w:=by
 unfold xq4 at ho;simp only[Bool.and_eq_true,beq_iff_eq,List.all_eq_true,List.mem_range,Bool.or_eq_true] at ho
 have h1:∀ i,late.contains i=false->listed.getD i true=true:=fun i hi=>by
  rcases Nat.lt_or_ge i ops.size with h' | h'
  ·rcases ho.2 i h' with h'' | h''
   ·rw[hi] at h'';cases h''
   ·exact h''
  ·rw[Array.getD_eq_getD_getElem?,Array.getElem?_eq_none (by omega)];rfl
 refine xgi fuel listed a w (fun i hi=>?_) h1 h
 by_cases hc:late.contains i=true
 ·exact hc
 ·exfalso;have h2:=(mem_ready.1 hi).1;have h3:=h1 i (by simpa using hc)
  rcases Nat.lt_or_ge i listed.size with h' | h'
  ·simp only[Array.getD_eq_getD_getElem?,Array.getElem?_eq_getElem h',Option.getD_some] at h2 h3;rw[h2] at h3;cases h3
  ·rw[Array.getD_eq_getD_getElem?,Array.getElem?_eq_none h'] at h2;cases h2
theorem xav {id:Nat}{a:Act}{w:World}(late:List Nat)(hm:P.follows .mixedOrders=true)
  (h:xbN P .any ops Q S late ops.size (Array.replicate ops.size false) a w.drew):(Code.region id ops true).wp P Q a w:=
 wp_region_any hm (xev _ _ _ _ h)
end
section
variable {P:Program} {md:Region.Mode} {ops:Array Oper} {Q:Exit->Act->World->Prop} {S:World->Prop}
def okT (md:Region.Mode)(ops:Array Oper)(late:List Nat)(listed:Array Bool)(i:Nat):Bool:=xnl md ops late i && (xoz md ops listed && (Region.noSelect ops && (Region.free md ops listed i && (Region.ready md ops listed).contains i)))
theorem tk {late:List Nat}(i:Nat)(oi:Oper)(v:Value){fuel:Nat}{listed:Array Bool}{a:Act}{w:World}(hi:ops[i]?=some oi)(hS:S w)(hQ:∀ c a w,Q (.panic c) (a.put oi.dst v) w->Q (.panic c) a w)(hw:Region.wanted oi (yielded ops a.tmps)=true)
  (ho:okT md ops late listed i=true) (hy:∀ w,S w->(execOp a.eval oi).run P w=.ok (.value v) w) (h:xbN P md ops Q S late fuel (listed.setIfInBounds i true) (a.put oi.dst v) w):xbN P md ops Q S late (fuel+1) listed a w:=by
 unfold okT at ho;simp only[Bool.and_eq_true] at ho
 exact xee ho.1 ho.2.1 hi ho.2.2.1 ho.2.2.2.1 ho.2.2.2.2 hQ (Or.inl ⟨hw,hy⟩) hS h
theorem tj {late:List Nat}(i:Nat)(oi:Oper)(v:Value){fuel:Nat}{listed:Array Bool}{a:Act}{w:World}(hS:S w)(hy:∀ w,S w->(execOp a.eval oi).run P w=.ok (.value v) w)(h:xbN P md ops Q S late fuel (listed.setIfInBounds i true) (a.put oi.dst v) w)(hi:ops[i]?=some oi:=by rfl)(hQ:∀ c a w,Q (.panic c) (a.put oi.dst v) w->Q (.panic c) a w:=by exact fun _ _ _ h=>h)(hw:Region.wanted oi (yielded ops a.tmps)=true:=by rfl)(ho:okT md ops late listed i=true:=by kernel_rfl):xbN P md ops Q S late (fuel+1) listed a w:=tk i oi v hi hS hQ hw ho hy h
def AllR (p:Nat->Prop):List Nat->Prop
 | []=>True
 | i :: l=>p i/\AllR p l
theorem AllR.all {p:Nat->Prop}:∀ {l:List Nat},AllR p l->∀ i∈l,p i
 | [],_,i,h=>by simp at h
 | k :: l,h,i,hi=>by
  rcases List.mem_cons.1 hi with rfl | hi
  ·exact h.1
  ·exact AllR.all h.2 i hi
theorem rdy {late:List Nat}(rs:List Nat){fuel:Nat}{listed:Array Bool}{a:Act}{w:World}(hne:rs.isEmpty=false)(hr:Region.ready md ops listed=rs)
  (h:AllR (fun i=>wpOp P ops Q i (fun a' w'=>(late.contains i=false->S w')/\xbN P md ops Q S late fuel (listed.setIfInBounds i true) a' w') a w) rs):xbN P md ops Q S late (fuel+1) listed a w:=
 xab hr (by intro e;rw[e] at hne;cases hne) h.all
end
theorem xct {P:Program}{ops:Array Oper}{o:Oper}{a:Act}{w w':World}{K:Act->World->Prop}{Q:Exit->Act->World->Prop}{E:Prop}(hg:o.guard=none)(s x:Operand)(T:TypeId)(hop:o.op=Op.call { callee:=Callee.builtin Builtin.append,args:=#[s,x],argTypes:=#[T,T] })
  (vs vx v':Value) (hs:a.eval s=vs) (hx:a.eval x=vx) (hrun:(Builtin.append_ #[T,T] o.type #[vs,vx]).run P w=.ok v' w') (hK:K (a.put o.dst v') w'):if Region.wanted o (yielded ops a.tmps)=true then Oper.wp P o a w K Q else E:=by
 have hw:Region.wanted o (yielded ops a.tmps)=true:=by simp[Region.wanted,hg]
 rw[if_pos hw];unfold Oper.wp
 simp[execOp,hop,resolve,invoke,builtin,hs,hx,hrun,Result.andThen]
 exact hK
theorem xbT {w:World}{b:Nat}{cur:Array Value}{t:TypeId}(h:w.heap[b]?=some (.cells cur t (0,0)))(o:Nat):w.frozen? ⟨b,o,none⟩=false:=by unfold World.frozen?;simp[h]
theorem xaZ {P:Program}{ops:Array Oper}{o:Oper}{a:Act}{w:World}{K:Act->World->Prop}{Q:Exit->Act->World->Prop}{E:Prop}(hg:o.guard=none)(fn:Nat)(cal:Operand)(args:Array Operand)(tys:Array TypeId)(hop:o.op=Op.call { callee:=Callee.value cal,args:=args,argTypes:=tys })
  (caps:Array Value) (hcal:a.eval cal=.func (.func fn) #[] caps) (vs:Array Value) (hvs:args.map a.eval=vs) (hcf:(callFunc fn (vs++caps)).run P w=.ok (.enter fn (vs++caps)) w) (hc:Calls P fn (vs++caps) w fun e w'=>∃ v,e=.returned v/\K (a.put o.dst v) w'):if Region.wanted o (yielded ops a.tmps)=true then Oper.wp P o a w K Q else E:=by
 have hw:Region.wanted o (yielded ops a.tmps)=true:=by simp[Region.wanted,hg]
 rw[if_pos hw];unfold Oper.wp
 have hr:(execOp a.eval o).run P w=.ok (.enter fn (vs++caps)) w:=by
  simp[execOp,hop,resolve,invoke,hcal,hvs,Deferred.ofValue]
  exact hcf
 rw[hr,Oper.upon_enter];refine hc.mono ?_;rintro e w' ⟨v,rfl,h⟩
 exact h
theorem xdN {fn:Nat}{f:Func}(hf:Try.prog.funcs[fn]?=some f)(hn:(f.name == "runtime.NumGoroutine")=false)(hb:f.body.isSome=true)(args:Array Value)(w:World):(callFunc fn args).run Try.prog w=.ok (.enter fn args) w:=by
 have h1:¬ f.name = "runtime.NumGoroutine" := by simpa using hn
 have h2:¬ f.body=none:=by intro h;rw[h] at hb;cases hb
 simp[callFunc,hf,h1,h2]
theorem xk7 {P:Program}{ops:Array Oper}{o:Oper}{a:Act}{w:World}{K:Act->World->Prop}{Q:Exit->Act->World->Prop}{E:Prop}(hw:Region.wanted o (yielded ops a.tmps)=true)(fn:Nat)(cal:Operand)(args:Array Operand)(tys:Array TypeId)(hop:o.op=Op.call { callee:=Callee.value cal,args:=args,argTypes:=tys })
  (caps:Array Value) (hcal:a.eval cal=.func (.func fn) #[] caps) (vs:Array Value) (hvs:args.map a.eval=vs) (hcf:(callFunc fn (vs++caps)).run P w=.ok (.enter fn (vs++caps)) w) (hc:Calls P fn (vs++caps) w fun e w'=>∃ v,e=.returned v/\K (a.put o.dst v) w'):if Region.wanted o (yielded ops a.tmps)=true then Oper.wp P o a w K Q else E:=by
 rw[if_pos hw];unfold Oper.wp
 have hr:(execOp a.eval o).run P w=.ok (.enter fn (vs++caps)) w:=by
  simp[execOp,hop,resolve,invoke,hcal,hvs,Deferred.ofValue]
  exact hcf
 rw[hr,Oper.upon_enter];refine hc.mono ?_;rintro e w' ⟨v,rfl,h⟩
 exact h
theorem xe3 {α:Type}{E:Lay α}{sz bytes:Nat}{P:Nat->Prop}{w:World}{v:Value}{xs:List α}(h:IsRow E sz bytes P w v xs)(hE:∀ f x,E P w f x->E (fun b=>b<w.heap.size) w f x/\∃ u,f 0=some u):IsRow E sz bytes (fun b=>b<w.heap.size) w v xs:=by
 obtain⟨ad,cap,h1,h2,h3,h4,h5⟩:=h;refine⟨ad,cap,h1,h2,h3,h4,fun i x hx=>?_⟩
 obtain⟨b,o,e1,e2,e3⟩:=h5 i x hx;obtain⟨k1,u,k2⟩:=hE _ _ e3
 exact⟨b,o,e1,World.block_lt_of_cell? w _ k2,k1⟩
theorem xjy {P:Nat->Prop}{w:World}{v:Value}{xs:List QI}(h:xaR P w v xs):xaR (fun b=>b<w.heap.size) w v xs:=xe3 h fun f x hx=>⟨hx,_,hx.1⟩
theorem xi3 {P:Nat->Prop}{w:World}{v:Value}{xs:List QM}(h:xbm P w v xs):xbm (fun b=>b<w.heap.size) w v xs:=xe3 h fun f x hx=>by
 obtain⟨h0,h1,h2,h3,h4,c,h5,h6⟩:=hx
 exact⟨⟨h0,h1,h2,h3,h4,c,h5,xjy h6⟩,_,h0⟩
theorem xd6 {P:Nat->Prop}{w:World}{v:Value}{xs:List QC}(h:xai P w v xs):xai (fun b=>b<w.heap.size) w v xs:=xe3 h fun f x hx=>by
 obtain⟨h0,h1,h2,h3,c,h5,h6⟩:=hx
 exact⟨⟨h0,h1,h2,h3,c,h5,xi3 h6⟩,_,h0⟩
theorem xdn {P:Program}{md:Region.Mode}{ops:Array Oper}{Q:Exit->Act->World->Prop}{S:World->Prop}{late late':List Nat}:∀ (fuel:Nat) (listed:Array Bool) (a:Act) (w:World),xbN P md ops Q S late fuel listed a w->xbN P md ops Q (fun _=>True) late' fuel listed a w
 | 0,_,_,_,h=>h
 | fuel+1,_,_,_,h=>⟨h.1,fun i hi=>wpOp_mono (fun a' w' h'=>⟨fun _=>trivial,xdn fuel _ a' w' h'.2⟩) (h.2 i hi)⟩
theorem cf26 (args:Array Value)(w:World):(callFunc 34 args).run Try.prog w=.ok (.enter 34 args) w:=xdN Try.func34 (by kernel_rfl) (by kernel_rfl) args w
theorem cf27 (args:Array Value)(w:World):(callFunc 35 args).run Try.prog w=.ok (.enter 35 args) w:=xdN Try.func35 (by kernel_rfl) (by kernel_rfl) args w
theorem cf28 (args:Array Value)(w:World):(callFunc 36 args).run Try.prog w=.ok (.enter 36 args) w:=xdN Try.func36 (by kernel_rfl) (by kernel_rfl) args w
theorem cf45 (args:Array Value)(w:World):(callFunc 53 args).run Try.prog w=.ok (.enter 53 args) w:=xdN Try.func53 (by kernel_rfl) (by kernel_rfl) args w
theorem cf46 (args:Array Value)(w:World):(callFunc 54 args).run Try.prog w=.ok (.enter 54 args) w:=xdN Try.func54 (by kernel_rfl) (by kernel_rfl) args w
theorem xp9 {U:World}{b o b' o':Nat}{v u:Value}(h:U.cell? ⟨b,o,none⟩=some v)(hne:b≠b'):(U.setCell ⟨b',o',none⟩ u).cell? ⟨b,o,none⟩=some v:=(qzI _ _ _ _ (by simp;omega)).trans h
abbrev xk4 (U:World)(b:Nat)(u0 u1 u2 u3 u4:Value):World:=((((U.setCell ⟨b,0,none⟩ u0).setCell ⟨b,1,none⟩ u1).setCell ⟨b,2,none⟩ u2).setCell ⟨b,3,none⟩ u3).setCell ⟨b,4,none⟩ u4
theorem xc2 {U:World}{b o b':Nat}{v u0 u1 u2 u3 u4:Value}(h:U.cell? ⟨b,o,none⟩=some v)(hne:b≠b'):(xk4 U b' u0 u1 u2 u3 u4).cell? ⟨b,o,none⟩=some v:=xp9 (xp9 (xp9 (xp9 (xp9 h hne) hne) hne) hne) hne
theorem blk5 {U:World}{b b':Nat}{u0 u1 u2 u3 u4:Value}(hne:b≠b'):(xk4 U b' u0 u1 u2 u3 u4).heap[b]?=U.heap[b]?:=by
 rw[xac hne,xac hne,xac hne,xac hne,xac hne]
theorem bel5 {w U:World}{lo b:Nat}{u0 u1 u2 u3 u4:Value}(h:Below lo w U)(hb:lo<=b):Below lo w (xk4 U b u0 u1 u2 u3 u4):=((((h.setCell hb _).setCell hb _).setCell hb _).setCell hb _).setCell hb _
def xgw (xs:List QC)(c k:Int):Option QM:=(xbx xs c).bind fun x=>if 0<=k then x.mz[k.toNat]? else none
theorem xkO {P:Nat->Prop}(X:QW)(c k:Int)(cv hv:Value)(w:World)(hC:xai P w cv X.cz)(hH:xaD P w hv X.heap):Calls Try.prog 31 #[WV cv hv X.ez,.int .i64 c,.int .i64 k] w fun e w'=>e=.returned (.bool (xgw X.cz c k).isSome)/\Below w.heap.size w w':=by
 obtain⟨ac,cc,rfl,hl,hcc,-,hrow⟩:=id hC;obtain⟨ah,ch,rfl,-⟩:=id hH;unfold maxLen at hcc;have hb0:=xak w (.cells #[.slice ac X.cz.length cc,.slice ah X.heap.length ch,.int .i64 X.ez] 25)
 by_cases hc0:0<=c
 ·obtain⟨q,rfl⟩:∃ q:Nat,c=(q:Int):=⟨c.toNat,by omega⟩
  have hd0:decide ((0:Int)<=(q:Int))=true:=by simp
  by_cases hq:q<X.cz.length
  ·have hx:X.cz[q]?=some X.cz[q]:=by simp[hq]
   have HM:Hid (xgw X.cz (q:Int) k=if 0<=k then X.cz[q].mz[k.toNat]? else none):=by show _=_;unfold xgw;rw[xeN,hx];rfl
   obtain⟨b,o,rfl,-,-,-,-,-,mv,y3,hms⟩:=hrow q _ hx;generalize X.cz[q]=xc at *;obtain⟨am,cm,rfl,-⟩:=id hms;have u3:=qzA hb0 y3;have hq1:(q:Int)<(X.cz.length:Int):=by omega
   have hq0:(0:Int)<=(q:Int):=by omega
   clear hrow y3 hms
   by_cases hk:0<=k
   ·have HM2:Hid ((xgw X.cz (q:Int) k).isSome=decide (k<(xc.mz.length:Int))):=by
     show _=_
     rw[HM.out,if_pos hk]
     by_cases h:k<(xc.mz.length:Int)
     ·rw[List.getElem?_eq_getElem (by omega)];simp[h]
     ·rw[List.getElem?_eq_none (by omega)];simp[h]
    go_enter Try.func31,Try.ntmps31;go_wp2
    go_ret
    exact⟨xby HM2.out.symm,hb0⟩
   ·have HM2:Hid ((xgw X.cz (q:Int) k).isSome=false):=by show _=_;rw[HM.out,if_neg hk];rfl
    have hkn:¬ (0<=k):=hk;go_enter Try.func31,Try.ntmps31;go_wp2
    go_ret
    exact⟨xby HM2.out.symm,hb0⟩
  ·have HM2:Hid ((xgw X.cz (q:Int) k).isSome=false):=by show _=_;unfold xgw;rw[xeN,List.getElem?_eq_none (by omega)];rfl
   have hqn:¬ ((q:Int)<(X.cz.length:Int)):=by omega
   clear hrow;go_enter Try.func31,Try.ntmps31;go_wp2
   go_ret
   exact⟨xby HM2.out.symm,hb0⟩
 ·have HM2:Hid ((xgw X.cz c k).isSome=false):=by show _=_;unfold xgw xbx;rw[if_neg hc0];rfl
  clear hrow;go_enter Try.func31,Try.ntmps31;go_wp2
  go_ret
  exact⟨xby HM2.out.symm,hb0⟩
theorem xf1:∀ (q:List QI) (i:Nat) (t:Int),(xa9 q).set (i*5+1) (.int .i64 t)=xa9 (q.modify i fun y=>{ y with a:=t })
 | [],i,t=>by simp[xa9]
 | p :: q,0,t=>by simp[xa9]
 | p :: q,i+1,t=>by
  rw[show (i+1)*5+1=i*5+1+1+1+1+1+1 by omega]
  simp only[xa9,List.set_cons_succ,List.modify_succ_cons];rw[xf1 q i t]
theorem OwnI.setA {w:World}{B g o cap:Nat}{code:List QI}(h:OwnI w B (some ⟨g,o,none⟩) cap code){p:Nat}(hp:p<code.length)(t:Int):OwnI (w.setCell ⟨g,o+p*5+1,none⟩ (.int .i64 t)) B (some ⟨g,o,none⟩) cap (code.modify p fun y=>{ y with a:=t }):=by
 obtain⟨h1,h2 | ⟨g',o',c',cur,e,h3,h4,h5,h6,h7,h8⟩⟩:=h
 ·have:=h2.2;omega
 ·cases e
  unfold OwnI;rw[List.length_modify];refine⟨by rw[xdT,List.length_modify],Or.inr ⟨g,o,cap,_,rfl,h3,xag h4 _,h5,h6,by simpa using h7,?_⟩⟩
  rw[← xf1,← h8];simp only[Array.toList_setIfInBounds,List.drop_set,List.take_set];rw[if_neg (by omega),show o+p*5+1-o=p*5+1 by omega,List.take_set]
theorem xo3 {P Q:Nat->Prop}(code plain:List QI)(begins:List Int)(g o cap B:Nat)(kv bv:Value)(w:World)(hO:OwnI w B (some ⟨g,o,none⟩) cap code)(hP:xaR P w kv plain)(hQ:xc5 Q w bv begins)(hPg:∀ b,P b->b≠g)(hQg:∀ b,Q b->b≠g)(hlen:begins.length=plain.length)(hl60:plain.length<=60)(hin:∀ b∈begins,0<=b/\b<(code.length:Int)) :
  Calls Try.prog 37 #[.slice (some ⟨g,o,none⟩) code.length cap,kv,bv] w fun e w'=>e=.returned (.tuple #[])/\OwnI w' B (some ⟨g,o,none⟩) cap (xdC begins plain code plain.length)/\Below B w w'/\∀ b,b<w.heap.size->b≠g->w'.heap[b]?=w.heap[b]?:=by
 obtain⟨ak,ck,rfl,-,hck,-,hrowP⟩:=id hP;obtain⟨ab,cb,rfl,-,hcb,-,hrowQ⟩:=id hQ
 have hcap:code.length<=cap/\cap<=9223372036854775807:=by
  obtain⟨a',c',e,h1,h2⟩:=hO.form
  cases e;unfold maxLen at h2;omega
 unfold maxLen at hck hcb;have hBg:B<=g:=(hO.lt g rfl).1;have hgw:g<w.heap.size:=(hO.lt g rfl).2;generalize hn:code.length=n at *;have HIN:=xcr hin;have HLEN:=xcr hlen;clear hin hlen;go_enter Try.func37,Try.ntmps37;go_wp2
 go_loopg [10] plain.length (fun gk iv wr=>∃ j:Nat,j+gk=plain.length/\iv=.int .i64 (j:Int)/\OwnI wr B (some ⟨g,o,none⟩) cap (xdC begins plain code j)/\Below B w wr/\(∀ b,b<w.heap.size->b≠g->wr.heap[b]?=w.heap[b]?)/\w.heap.size<=wr.heap.size)
 case atStart=>exact⟨0,by omega,rfl,hO,qzL _ _,fun _ _ _=>rfl,qzC _⟩
 case round=>
  clear hO;obtain⟨j,hj,rfl,hO,hb,hblk,hsz⟩:=hrel;have hlj:(xdC begins plain code j).length=n:=by rw[xdi,hn]
  by_cases hlt:j<plain.length
  ·have hxj:plain[j]?=some plain[j]:=by simp[hlt]
   obtain⟨pz,hbj⟩:∃ pz,begins[j]?=some pz:=⟨begins[j]'(by have:=HLEN.out;omega),by simp⟩
   have hpz:=HIN.out pz (List.mem_of_getElem? hbj);obtain⟨p,rfl⟩:∃ p:Nat,pz=(p:Int):=⟨pz.toNat,by omega⟩
   obtain⟨b1,o1,rfl,hPb,u0,u1,u2,u3,u4,-⟩:=hrowP j _ hxj;obtain⟨bb,ob,rfl,hQb,y0⟩:=hrowQ j _ hbj;generalize plain[j]=x at *;have hb1l:b1<w.heap.size:=World.block_lt_of_cell? w _ u0;have hbbl:bb<w.heap.size:=World.block_lt_of_cell? w _ y0;have hcell:∀ (b o:Nat) v,b<w.heap.size->b≠g->w.cell? ⟨b,o,none⟩=some v->wr.cell? ⟨b,o,none⟩=some v:=fun b o v h1 h2 h=>by unfold World.cell? at h ⊢;rw[hblk b h1 h2];exact h
   simp only[Nat.add_zero] at u0;replace u0:=hcell _ _ _ hb1l (hPg _ hPb) u0;replace u1:=hcell _ _ _ hb1l (hPg _ hPb) u1;replace u2:=hcell _ _ _ hb1l (hPg _ hPb) u2;replace u3:=hcell _ _ _ hb1l (hPg _ hPb) u3;replace u4:=hcell _ _ _ hb1l (hPg _ hPb) u4;replace y0:wr.cell? ⟨bb,ob+j,none⟩=some (.int .i64 (p:Int)):=hcell _ _ _ hbbl (hQg _ hQb) (by simpa [xpr] using y0)
   have hj1:(j:Int)<(plain.length:Int):=by omega
   have hj0:(0:Int)<=(j:Int):=by omega
   have hjb:(j:Int)<(begins.length:Int):=by have:=HLEN.out;omega
   have hbx:=xak wr (.cells #[.int .i64 x.op,.int .i64 x.a,.int .i64 x.b,.int .i64 x.c,.string x.name] 59)
   have HLS:Hid (xdC begins plain code (j+1)=match xeh begins x with | some t=>(xdC begins plain code j).modify p (fun y=>{ y with a:=t }) | none=>xdC begins plain code j):=by
    show _=_
    conv=>lhs;unfold xdC
    rw[hxj,hbj]
    cases h:xeh begins x with
    | none=>simp only[h]
    | some t=>simp only[h,Int.toNat_natCast]
   have HNX:Hid (xeh begins x=none->∃ j':Nat,j'+(plain.length-(j+1))=plain.length/\Value.int .i64 ((j:Int)+1)=.int .i64 (j':Int)/\OwnI (wr.alloc (.cells #[.int .i64 x.op,.int .i64 x.a,.int .i64 x.b,.int .i64 x.c,.string x.name] 59)) B (some ⟨g,o,none⟩) cap (xdC begins plain code j')/\Below B w (wr.alloc (.cells #[.int .i64 x.op,.int .i64 x.a,.int .i64 x.b,.int .i64 x.c,.string x.name] 59))/\(∀ b,b<w.heap.size->b≠g->(wr.alloc (.cells #[.int .i64 x.op,.int .i64 x.a,.int .i64 x.b,.int .i64 x.c,.string x.name] 59)).heap[b]?=w.heap[b]?)/\w.heap.size<=(wr.alloc (.cells #[.int .i64 x.op,.int .i64 x.a,.int .i64 x.b,.int .i64 x.c,.string x.name] 59)).heap.size):=fun h=>by
    refine⟨j+1,by omega,by go_num,?_,xfr hb _ (by omega),fun b h1 h2=>by rw[hbx.block b (by omega)];exact hblk b h1 h2,by simp;omega⟩
    rw[HLS.out,h]
    exact hO.alloc _
   have hwj:IntKind.i64.wrap ((j:Int)+1)=(j:Int)+1:=xat (by omega) (by omega)
   clear hxj hbj hcell
   by_cases hjp:(x.op=15\/x.op=16)/\0<=x.a/\x.a<(begins.length:Int)
   ·obtain⟨hop,ha0,ha1⟩:=hjp;obtain⟨xa,hxa⟩:∃ xa:Nat,x.a=(xa:Int):=⟨x.a.toNat,by omega⟩
    obtain⟨tt,htt⟩:∃ tt,begins[xa]?=some tt:=⟨begins[xa]'(by omega),by simp⟩
    have HLD:Hid (xeh begins x=some tt):=by show _=_;unfold xeh;rw[if_pos ⟨hop,ha0⟩,hxa];simpa using htt
    obtain⟨bb',ob',eb,-,t0⟩:=hrowQ xa tt htt
    cases eb
    replace t0:wr.cell? ⟨bb,ob+xa,none⟩=some (.int .i64 tt):=by
     have h:w.cell? ⟨bb,ob+xa,none⟩=some (.int .i64 tt):=by simpa [xpr] using t0
     unfold World.cell? at h ⊢;rw[hblk bb hbbl (hQg _ hQb)];exact h
    have hxa1:(xa:Int)<(begins.length:Int):=by omega
    have hxa0:(0:Int)<=(xa:Int):=by omega
    have hda:decide ((0:Int)<=(xa:Int))=true:=by simp
    have hdb:decide ((xa:Int)<(begins.length:Int))=true:=by simp;omega
    have hp1:(p:Int)<(n:Int):=by omega
    have hp0:(0:Int)<=(p:Int):=by omega
    rw[hxa] at u1;have hO1:OwnI (wr.alloc (.cells #[.int .i64 x.op,.int .i64 (xa:Int),.int .i64 x.b,.int .i64 x.c,.string x.name] 59)) B (some ⟨g,o,none⟩) cap (xdC begins plain code j):=hO.alloc _;have hset:=xcr (OwnI.setA hO1 (p:=p) (by omega) tt)
    have hgr:g<wr.heap.size:=(hO.lt g rfl).2
    have hcg:∃ u,(wr.alloc (.cells #[.int .i64 x.op,.int .i64 (xa:Int),.int .i64 x.b,.int .i64 x.c,.string x.name] 59)).cell? ⟨g,o+p*5+1,none⟩=some u/\∀ k,(wr.alloc (.cells #[.int .i64 x.op,.int .i64 (xa:Int),.int .i64 x.b,.int .i64 x.c,.string x.name] 59)).frozen? ⟨g,k,none⟩=false:=by
     obtain⟨h1,h2 | ⟨g',o',c',cur,e,h3,h4,h5,h6,h7,h8⟩⟩:=hO1
     ·have:=h2.2;omega
     ·cases e
      refine⟨_,by rw[qzB h4];exact Array.getElem?_eq_getElem (by omega),xbT h4⟩
    obtain⟨ug,hug,hgf⟩:=hcg;have hbx':=xak wr (.cells #[.int .i64 x.op,.int .i64 (xa:Int),.int .i64 x.b,.int .i64 x.c,.string x.name] 59);have y0':=qzA hbx' y0;have t0':=qzA hbx' t0;have x1':(wr.alloc (.cells #[.int .i64 x.op,.int .i64 (xa:Int),.int .i64 x.b,.int .i64 x.c,.string x.name] 59)).cell? ⟨wr.heap.size,1,none⟩=some (.int .i64 (xa:Int)):=xaa _ _ _ _ rfl 1;have HXA:=xcr hxa;have HBB:=xcr (And.intro hblk (And.intro hb hsz));clear hxa ha0 ha1 htt hO hO1 HNX hrowQ hrowP
    have hfin:Hid (∃ j':Nat,j'+(plain.length-(j+1))=plain.length/\Value.int .i64 ((j:Int)+1)=.int .i64 (j':Int)/\OwnI (((wr.alloc (.cells #[.int .i64 x.op,.int .i64 (xa:Int),.int .i64 x.b,.int .i64 x.c,.string x.name] 59))).setCell ⟨g,o+p*5+1,none⟩ (.int .i64 tt)).drew B (some ⟨g,o,none⟩) cap (xdC begins plain code j')/\Below B w (((wr.alloc (.cells #[.int .i64 x.op,.int .i64 (xa:Int),.int .i64 x.b,.int .i64 x.c,.string x.name] 59))).setCell ⟨g,o+p*5+1,none⟩ (.int .i64 tt)).drew/\(∀ b,b<w.heap.size->b≠g->(((wr.alloc (.cells #[.int .i64 x.op,.int .i64 (xa:Int),.int .i64 x.b,.int .i64 x.c,.string x.name] 59))).setCell ⟨g,o+p*5+1,none⟩ (.int .i64 tt)).drew.heap[b]?=w.heap[b]?)/\w.heap.size<=(((wr.alloc (.cells #[.int .i64 x.op,.int .i64 (xa:Int),.int .i64 x.b,.int .i64 x.c,.string x.name] 59))).setCell ⟨g,o+p*5+1,none⟩ (.int .i64 tt)).drew.heap.size):=by
     obtain⟨h1,h2,h3⟩:=HBB.out;refine⟨j+1,by omega,by go_num,?_,((xfr h2 _ (by omega)).setCell hBg _).drew,fun b hb1 hb2=>?_,by simp;omega⟩
     ·rw[HLS.out,HLD.out]
      exact hset.out.keep fun g hg=>rfl
     ·show (World.setCell _ _ _).heap[b]?=_
      rw[xac hb2,hbx'.block b (by omega)]
      exact h1 b hb1 hb2
    rcases hop with hop | hop
    ·have hd15:(x.op == 15)=true:=by simpa using hop
     clear hop
     go_upto_region 4 with (fail)
     generalize (wr.alloc (.cells #[.int .i64 x.op,.int .i64 (xa:Int),.int .i64 x.b,.int .i64 x.c,.string x.name] 59))=V at *;have hS0:V.drew.cell? ⟨bb,ob+j,none⟩=some (.int .i64 (p:Int))/\V.drew.cell? ⟨wr.heap.size,1,none⟩=some (.int .i64 (xa:Int))/\V.drew.cell? ⟨bb,ob+xa,none⟩=some (.int .i64 tt):=⟨y0',x1',t0'⟩;refine xav (S:=fun w'=>w'.cell? ⟨bb,ob+j,none⟩=some (.int .i64 (p:Int))/\w'.cell? ⟨wr.heap.size,1,none⟩=some (.int .i64 (xa:Int))/\w'.cell? ⟨bb,ob+xa,none⟩=some (.int .i64 tt)) [12] (by kernel_rfl) ?_
     refine tj 0 (⟨some 35,.move (.tmp 0),53,_,_,none⟩) (.slice (some ⟨g,o,none⟩) n cap) (hS0) ?_ ?_
     ·rintro w⟨q0,q1,q2⟩;go_simp
     try simp only[Act.put,qzF,qzG,qzH]
     refine tj 1 (⟨some 36,.move (.tmp 2),48,_,_,none⟩) (.slice (some ⟨bb,ob,none⟩) begins.length cb) (hS0) ?_ ?_
     ·rintro w⟨q0,q1,q2⟩;go_simp
     try simp only[Act.put,qzF,qzG,qzH]
     refine tj 2 (⟨some 37,.move (.tmp 6),3,_,_,none⟩) (.int .i64 (j:Int)) (hS0) ?_ ?_
     ·rintro w⟨q0,q1,q2⟩;go_simp
     try simp only[Act.put,qzF,qzG,qzH]
     refine tj 3 (⟨some 38,.indexAddr 48 (.tmp 36) (.tmp 37),0,_,_,none⟩) (.pointer (some ⟨bb,ob+j,none⟩)) (hS0) ?_ ?_
     ·rintro w⟨q0,q1,q2⟩;go_simp
     try simp only[Act.put,qzF,qzG,qzH]
     refine tj 4 (⟨some 39,.load 3 (.tmp 38),3,_,_,none⟩) (.int .i64 (p:Int)) (hS0) ?_ ?_
     ·rintro w⟨q0,q1,q2⟩;go_simp
     try simp only[Act.put,qzF,qzG,qzH]
     refine tj 5 (⟨some 40,.move (.tmp 2),48,_,_,none⟩) (.slice (some ⟨bb,ob,none⟩) begins.length cb) (hS0) ?_ ?_
     ·rintro w⟨q0,q1,q2⟩;go_simp
     try simp only[Act.put,qzF,qzG,qzH]
     refine tj 6 (⟨some 41,.fieldAddr 59 (.tmp 7) 1,0,_,_,none⟩) (.pointer (some ⟨wr.heap.size,1,none⟩)) (hS0) ?_ ?_
     ·rintro w⟨q0,q1,q2⟩;go_simp
     try simp only[Act.put,qzF,qzG,qzH]
     refine tj 7 (⟨some 42,.load 3 (.tmp 41),3,_,_,none⟩) (.int .i64 (xa:Int)) (hS0) ?_ ?_
     ·rintro w⟨q0,q1,q2⟩;go_simp
     try simp only[Act.put,qzF,qzG,qzH]
     refine tj 8 (⟨some 43,.indexAddr 48 (.tmp 40) (.tmp 42),0,_,_,none⟩) (.pointer (some ⟨bb,ob+xa,none⟩)) (hS0) ?_ ?_
     ·rintro w⟨q0,q1,q2⟩;go_simp
     try simp only[Act.put,qzF,qzG,qzH]
     refine tj 9 (⟨some 44,.load 3 (.tmp 43),3,_,_,none⟩) (.int .i64 tt) (hS0) ?_ ?_
     ·rintro w⟨q0,q1,q2⟩;go_simp
     try simp only[Act.put,qzF,qzG,qzH]
     refine tj 10 (⟨some 45,.indexAddr 53 (.tmp 35) (.tmp 39),0,_,_,none⟩) (.pointer (some ⟨g,o+p*5,none⟩)) (hS0) ?_ ?_
     ·rintro w⟨q0,q1,q2⟩;go_simp
     try simp only[Act.put,qzF,qzG,qzH]
     refine tj 11 (⟨some 46,.fieldAddr 59 (.tmp 45) 1,0,_,_,none⟩) (.pointer (some ⟨g,o+p*5+1,none⟩)) (hS0) ?_ ?_
     ·rintro w⟨q0,q1,q2⟩;go_simp
     try simp only[Act.put,qzF,qzG,qzH]
     refine xab (rs:=[12]) (by kernel_rfl) (by simp) ?_
     intro i hi;simp only[List.mem_cons,List.not_mem_nil,or_false] at hi;subst hi;refine xaN (o:=⟨none,.store 3 (.tmp 46) (.tmp 44),0,_,_,none⟩) rfl (fun K' hK=>?_)
     go_simp;refine hK _ _ (fun h=>absurd h (by decide)) ?_
     clear hK K'
     try simp only[Act.put,qzF,qzG,qzH]
     refine xaz (by kernel_rfl) ?_ _
     try simp only[Act.put,qzF,qzG,qzH]
     go_wp2
     go_roundg (plain.length-(j+1))
     case measure=>omega
     case rel=>exact hfin.out
    ·have hd15:(x.op == 15)=false:=by simp[hop]
     have hd16:(x.op == 16)=true:=by simpa using hop
     clear hop
     go_upto_region 4 with (fail)
     generalize (wr.alloc (.cells #[.int .i64 x.op,.int .i64 (xa:Int),.int .i64 x.b,.int .i64 x.c,.string x.name] 59))=V at *;have hS0:V.drew.cell? ⟨bb,ob+j,none⟩=some (.int .i64 (p:Int))/\V.drew.cell? ⟨wr.heap.size,1,none⟩=some (.int .i64 (xa:Int))/\V.drew.cell? ⟨bb,ob+xa,none⟩=some (.int .i64 tt):=⟨y0',x1',t0'⟩;refine xav (S:=fun w'=>w'.cell? ⟨bb,ob+j,none⟩=some (.int .i64 (p:Int))/\w'.cell? ⟨wr.heap.size,1,none⟩=some (.int .i64 (xa:Int))/\w'.cell? ⟨bb,ob+xa,none⟩=some (.int .i64 tt)) [12] (by kernel_rfl) ?_
     refine tj 0 (⟨some 35,.move (.tmp 0),53,_,_,none⟩) (.slice (some ⟨g,o,none⟩) n cap) (hS0) ?_ ?_
     ·rintro w⟨q0,q1,q2⟩;go_simp
     try simp only[Act.put,qzF,qzG,qzH]
     refine tj 1 (⟨some 36,.move (.tmp 2),48,_,_,none⟩) (.slice (some ⟨bb,ob,none⟩) begins.length cb) (hS0) ?_ ?_
     ·rintro w⟨q0,q1,q2⟩;go_simp
     try simp only[Act.put,qzF,qzG,qzH]
     refine tj 2 (⟨some 37,.move (.tmp 6),3,_,_,none⟩) (.int .i64 (j:Int)) (hS0) ?_ ?_
     ·rintro w⟨q0,q1,q2⟩;go_simp
     try simp only[Act.put,qzF,qzG,qzH]
     refine tj 3 (⟨some 38,.indexAddr 48 (.tmp 36) (.tmp 37),0,_,_,none⟩) (.pointer (some ⟨bb,ob+j,none⟩)) (hS0) ?_ ?_
     ·rintro w⟨q0,q1,q2⟩;go_simp
     try simp only[Act.put,qzF,qzG,qzH]
     refine tj 4 (⟨some 39,.load 3 (.tmp 38),3,_,_,none⟩) (.int .i64 (p:Int)) (hS0) ?_ ?_
     ·rintro w⟨q0,q1,q2⟩;go_simp
     try simp only[Act.put,qzF,qzG,qzH]
     refine tj 5 (⟨some 40,.move (.tmp 2),48,_,_,none⟩) (.slice (some ⟨bb,ob,none⟩) begins.length cb) (hS0) ?_ ?_
     ·rintro w⟨q0,q1,q2⟩;go_simp
     try simp only[Act.put,qzF,qzG,qzH]
     refine tj 6 (⟨some 41,.fieldAddr 59 (.tmp 7) 1,0,_,_,none⟩) (.pointer (some ⟨wr.heap.size,1,none⟩)) (hS0) ?_ ?_
     ·rintro w⟨q0,q1,q2⟩;go_simp
     try simp only[Act.put,qzF,qzG,qzH]
     refine tj 7 (⟨some 42,.load 3 (.tmp 41),3,_,_,none⟩) (.int .i64 (xa:Int)) (hS0) ?_ ?_
     ·rintro w⟨q0,q1,q2⟩;go_simp
     try simp only[Act.put,qzF,qzG,qzH]
     refine tj 8 (⟨some 43,.indexAddr 48 (.tmp 40) (.tmp 42),0,_,_,none⟩) (.pointer (some ⟨bb,ob+xa,none⟩)) (hS0) ?_ ?_
     ·rintro w⟨q0,q1,q2⟩;go_simp
     try simp only[Act.put,qzF,qzG,qzH]
     refine tj 9 (⟨some 44,.load 3 (.tmp 43),3,_,_,none⟩) (.int .i64 tt) (hS0) ?_ ?_
     ·rintro w⟨q0,q1,q2⟩;go_simp
     try simp only[Act.put,qzF,qzG,qzH]
     refine tj 10 (⟨some 45,.indexAddr 53 (.tmp 35) (.tmp 39),0,_,_,none⟩) (.pointer (some ⟨g,o+p*5,none⟩)) (hS0) ?_ ?_
     ·rintro w⟨q0,q1,q2⟩;go_simp
     try simp only[Act.put,qzF,qzG,qzH]
     refine tj 11 (⟨some 46,.fieldAddr 59 (.tmp 45) 1,0,_,_,none⟩) (.pointer (some ⟨g,o+p*5+1,none⟩)) (hS0) ?_ ?_
     ·rintro w⟨q0,q1,q2⟩;go_simp
     try simp only[Act.put,qzF,qzG,qzH]
     refine xab (rs:=[12]) (by kernel_rfl) (by simp) ?_
     intro i hi;simp only[List.mem_cons,List.not_mem_nil,or_false] at hi;subst hi;refine xaN (o:=⟨none,.store 3 (.tmp 46) (.tmp 44),0,_,_,none⟩) rfl (fun K' hK=>?_)
     go_simp;refine hK _ _ (fun h=>absurd h (by decide)) ?_
     clear hK K'
     try simp only[Act.put,qzF,qzG,qzH]
     refine xaz (by kernel_rfl) ?_ _
     try simp only[Act.put,qzF,qzG,qzH]
     go_wp2
     go_roundg (plain.length-(j+1))
     case measure=>omega
     case rel=>exact hfin.out
   ·have HLD:Hid (xeh begins x=none):=by
     show _=_
     unfold xeh
     by_cases h1:(x.op=15\/x.op=16)/\0<=x.a
     ·rw[if_pos h1,List.getElem?_eq_none (by omega)]
     ·rw[if_neg h1]
    have hfin:=xcr (HNX.out HLD.out)
    by_cases h15:x.op=15
    ·have hd15:(x.op == 15)=true:=by simpa using h15
     by_cases ha0:0<=x.a
     ·have hlt2:¬ (x.a<(begins.length:Int)):=fun h=>hjp ⟨Or.inl h15,ha0,h⟩
      clear h15 hjp HNX;go_wp2
      go_roundg (plain.length-(j+1))
      case measure=>omega
      case rel=>exact hfin.out
     ·clear h15 hjp HNX;go_wp2
      go_roundg (plain.length-(j+1))
      case measure=>omega
      case rel=>exact hfin.out
    ·have hd15:(x.op == 15)=false:=by simpa using h15
     by_cases h16:x.op=16
     ·have hd16:(x.op == 16)=true:=by simpa using h16
      by_cases ha0:0<=x.a
      ·have hlt2:¬ (x.a<(begins.length:Int)):=fun h=>hjp ⟨Or.inr h16,ha0,h⟩
       clear h15 h16 hjp HNX;go_wp2
       go_roundg (plain.length-(j+1))
       case measure=>omega
       case rel=>exact hfin.out
      ·clear h15 h16 hjp HNX;go_wp2
       go_roundg (plain.length-(j+1))
       case measure=>omega
       case rel=>exact hfin.out
     ·have hd16:(x.op == 16)=false:=by simpa using h16
      clear h15 h16 hjp HNX;go_wp2
      go_roundg (plain.length-(j+1))
      case measure=>omega
      case rel=>exact hfin.out
  ·obtain rfl:j=plain.length:=by omega
   have HF:=xcr (And.intro hO (And.intro hb hblk));clear hO hb hblk;go_wp2
   exact bodyPost_end (v:=.tuple #[]) (by simp[results,Try.results37,go_sem]) rfl ⟨rfl,HF.out.1,HF.out.2.1,HF.out.2.2⟩
theorem xh2:∀ (ps:List Int) (m:Int),(∀ p∈ps,0<=p)->0<=m->xdh m ps=decide (ps.sum<=m)
 | [],m,_,hm=>by simp[xdh,hm]
 | p :: r,m,h,hm=>by
  have hp:=h p (by simp)
  have hr:∀ q∈r,0<=q:=fun q hq=>h q (by simp[hq])
  have hs:∀ l:List Int,(∀ q∈l,0<=q)->0<=l.sum:=by
   intro l
   induction l with
   | nil=>intro _;simp
   | cons a l ih=>intro hl;have:=ih fun q hq=>hl q (by simp[hq]);have:=hl a (by simp);simp;omega
  have h0:=hs r hr;unfold xdh
  by_cases hc:m<p
  ·rw[if_pos (Or.inr hc)];have:¬ (p :: r).sum<=m:=by simp;omega
   simp only[this,decide_false]
  ·rw[if_neg (by omega),xh2 r (m-p) hr (by omega)]
   have:(r.sum<=m-p) ↔ ((p :: r).sum<=m):=by simp;omega
   simp only[this]
theorem xif (w:World)(ps:List Int)(t:TypeId)(hl:ps.length<=1000):xc5 (fun _=>True) (w.alloc (.cells (ps.map (Value.int .i64)).toArray t)) (.slice (some ⟨w.heap.size,0,none⟩) ps.length ps.length) ps:=by
 refine⟨_,_,rfl,qzC _,by unfold maxLen;omega,by omega,fun i x hx=>⟨w.heap.size,0,rfl,trivial,?_⟩⟩
 show World.cell? _ ⟨w.heap.size,0+i*1+0,none⟩=_
 rw[xaa _ _ _ _ rfl]
 simp[hx]
theorem xjD (f:Fst)(a:Option Addr)(n cap:Nat)(leaf:QM)(ka:Option Addr)(kc:Nat)(w:World)(ha:0<=leaf.args/\leaf.args<=4)(ht:0<=leaf.temps/\leaf.temps<=6)(hs:0<=f.temps/\f.temps<=100)(hn:n<=300)(hl60:leaf.code.length<=60) :
  Calls Try.prog 36 #[FsV f (.slice a n cap),MV leaf (.slice ka leaf.code.length kc)] w fun e w'=>e=.returned (PlV f.temps (f.temps+1) (f.temps+1+leaf.args) (xbw leaf n) (xbw leaf n+leaf.code.length))/\Below w.heap.size w w':=by
 have h1:IntKind.i64.wrap (f.temps+1)=f.temps+1:=xat (by omega) (by omega)
 have h2:IntKind.i64.wrap (f.temps+1+leaf.args)=f.temps+1+leaf.args:=xat (by omega) (by omega)
 have h3:IntKind.i64.wrap ((n:Int)+3)=(n:Int)+3:=xat (by omega) (by omega)
 have h4:IntKind.i64.wrap ((n:Int)+3+leaf.args)=(n:Int)+3+leaf.args:=xat (by omega) (by omega)
 have h5:IntKind.i64.wrap (2*leaf.temps)=2*leaf.temps:=xat (by omega) (by omega)
 have h6:IntKind.i64.wrap ((n:Int)+3+leaf.args+2*leaf.temps)=(n:Int)+3+leaf.args+2*leaf.temps:=xat (by omega) (by omega)
 have h7:IntKind.i64.wrap ((n:Int)+3+leaf.args+2*leaf.temps+(leaf.code.length:Int))=(n:Int)+3+leaf.args+2*leaf.temps+(leaf.code.length:Int):=xat (by omega) (by omega)
 go_enter Try.func36,Try.ntmps36;go_wp2;refine qzK (v:=PlV f.temps (f.temps+1) (f.temps+1+leaf.args) (xbw leaf n) (xbw leaf n+leaf.code.length)) ?_ rfl ⟨rfl,?_⟩
 ·simp[results,Try.results36,go_sem,xbw]
 ·exact xfL _ _ _ _
theorem xqd (n:Nat)(temps:Int)(leaf:QM)(left:Int)(ha:0<=leaf.args/\leaf.args<=4)(ht:0<=leaf.temps/\leaf.temps<=6)(hs:0<=temps)(hl:0<=left):xgy n temps leaf left=(xdh 240 [(n:Int),3,leaf.args,leaf.temps,leaf.temps,(leaf.code.length:Int),left] && xdh 40 [temps,1,leaf.args,leaf.temps]):=by
 rw[xh2 _ _ (by intro p hp;simp at hp;rcases hp with rfl | rfl | rfl | rfl | rfl | rfl<;>omega) (by omega),xh2 _ _ (by intro p hp;simp at hp;rcases hp with rfl | rfl | rfl | rfl<;>omega) (by omega)]
 unfold xgy;rw[Bool.eq_iff_iff]
 simp
 omega
theorem xji (f:Fst)(a:Option Addr)(n cap:Nat)(leaf:QM)(ka:Option Addr)(kc:Nat)(left:Int)(w:World)(ha:0<=leaf.args/\leaf.args<=4)(ht:0<=leaf.temps/\leaf.temps<=6)(hs:0<=f.temps)(hl:0<=left) :
  Calls Try.prog 33 #[FsV f (.slice a n cap),MV leaf (.slice ka leaf.code.length kc),.int .i64 left] w fun e w'=>e=.returned (.bool (xgy n f.temps leaf left))/\Below w.heap.size w w':=by
 have HRM:=xcr (xqd n f.temps leaf left ha ht hs hl);have hb2:=xbP w (.cells #[.int .i64 f.cls,.string f.name,.int .i64 f.ez,.int .i64 f.temps,.slice a n cap] 62) (.cells #[.string leaf.name,.int .i64 leaf.args,.int .i64 leaf.temps,.int .i64 leaf.prim,.slice ka leaf.code.length kc] 55);have c0:((w.alloc (.cells #[.int .i64 f.cls,.string f.name,.int .i64 f.ez,.int .i64 f.temps,.slice a n cap] 62)).alloc (.cells #[.string leaf.name,.int .i64 leaf.args,.int .i64 leaf.temps,.int .i64 leaf.prim,.slice ka leaf.code.length kc] 55)).cell? ⟨w.heap.size,4,none⟩=some (.slice a n cap):=qzA (xak _ _) (xaa w #[.int .i64 f.cls,.string f.name,.int .i64 f.ez,.int .i64 f.temps,.slice a n cap] 62 _ rfl 4)
 have c3:((w.alloc (.cells #[.int .i64 f.cls,.string f.name,.int .i64 f.ez,.int .i64 f.temps,.slice a n cap] 62)).alloc (.cells #[.string leaf.name,.int .i64 leaf.args,.int .i64 leaf.temps,.int .i64 leaf.prim,.slice ka leaf.code.length kc] 55)).cell? ⟨w.heap.size,3,none⟩=some (.int .i64 f.temps):=qzA (xak _ _) (xaa w #[.int .i64 f.cls,.string f.name,.int .i64 f.ez,.int .i64 f.temps,.slice a n cap] 62 _ rfl 3);have l1:((w.alloc (.cells #[.int .i64 f.cls,.string f.name,.int .i64 f.ez,.int .i64 f.temps,.slice a n cap] 62)).alloc (.cells #[.string leaf.name,.int .i64 leaf.args,.int .i64 leaf.temps,.int .i64 leaf.prim,.slice ka leaf.code.length kc] 55)).cell? ⟨w.heap.size+1,1,none⟩=some (.int .i64 leaf.args):=xaa _ _ _ _ (by simp) 1
 have l2:((w.alloc (.cells #[.int .i64 f.cls,.string f.name,.int .i64 f.ez,.int .i64 f.temps,.slice a n cap] 62)).alloc (.cells #[.string leaf.name,.int .i64 leaf.args,.int .i64 leaf.temps,.int .i64 leaf.prim,.slice ka leaf.code.length kc] 55)).cell? ⟨w.heap.size+1,2,none⟩=some (.int .i64 leaf.temps):=xaa _ _ _ _ (by simp) 2
 have l4:((w.alloc (.cells #[.int .i64 f.cls,.string f.name,.int .i64 f.ez,.int .i64 f.temps,.slice a n cap] 62)).alloc (.cells #[.string leaf.name,.int .i64 leaf.args,.int .i64 leaf.temps,.int .i64 leaf.prim,.slice ka leaf.code.length kc] 55)).cell? ⟨w.heap.size+1,4,none⟩=some (.slice ka leaf.code.length kc):=xaa _ _ _ _ (by simp) 4
 go_enter Try.func33,Try.ntmps33
 go_upto_region 1 with (fail)
 generalize ((w.alloc (.cells #[.int .i64 f.cls,.string f.name,.int .i64 f.ez,.int .i64 f.temps,.slice a n cap] 62)).alloc (.cells #[.string leaf.name,.int .i64 leaf.args,.int .i64 leaf.temps,.int .i64 leaf.prim,.slice ka leaf.code.length kc] 55))=W at *;go_wp2_with fail;refine (xks [(n:Int),3,leaf.args,leaf.temps,leaf.temps,(leaf.code.length:Int),left] _ 240 _ (by omega) (xif W [(n:Int),3,leaf.args,leaf.temps,leaf.temps,(leaf.code.length:Int),left] 3 (by simp))).mono ?_
 rintro e w1 ⟨rfl,rfl⟩;have hb1:=xak W (.cells #[.int .i64 (n:Int),.int .i64 3,.int .i64 leaf.args,.int .i64 leaf.temps,.int .i64 leaf.temps,.int .i64 (leaf.code.length:Int),.int .i64 left] 3)
 by_cases h1:xdh 240 [(n:Int),3,leaf.args,leaf.temps,leaf.temps,(leaf.code.length:Int),left]=true
 ·have HV:Hid (xgy n f.temps leaf left=xdh 40 [f.temps,1,leaf.args,leaf.temps]):=by show _=_;rw[HRM.out,h1];rfl
  rw[h1];have d3:=qzA hb1 c3;have e1:=qzA hb1 l1;have e2:=qzA hb1 l2;have HB:=xcr (xaf hb2 hb1);clear h1 c0 c3 l1 l2 l4 hb2;generalize hW1:W.alloc _=W1 at *;go_wp2_with fail;refine (xks [f.temps,1,leaf.args,leaf.temps] _ 40 _ (by omega) (xif W1 [f.temps,1,leaf.args,leaf.temps] 3 (by simp))).mono ?_
  rintro e w2 ⟨rfl,rfl⟩;have HB2:=xcr (xaf HB.out (xak W1 (.cells ([f.temps,1,leaf.args,leaf.temps].map (Value.int .i64)).toArray 3)));go_wp2
  go_ret
  exact⟨xby HV.out.symm,HB2.out⟩
 ·have h1':xdh 240 [(n:Int),3,leaf.args,leaf.temps,leaf.temps,(leaf.code.length:Int),left]=false:=by simpa using h1
  have HV:Hid (xgy n f.temps leaf left=false):=by show _=_;rw[HRM.out,h1'];rfl
  rw[h1'];have HB:=xcr (xaf hb2 hb1);clear h1 h1';go_wp2
  go_ret
  exact⟨xby HV.out.symm,HB.out⟩
end Go.Proofs.Ytdfbgpiikeheiaa
