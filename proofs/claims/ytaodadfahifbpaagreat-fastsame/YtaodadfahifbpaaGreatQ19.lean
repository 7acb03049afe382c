/- A part. -/
import Derived.Test.YtaodadfahifbpaaGreatQ9
namespace Go.Proofs.YtaodadfahifbpaaGreat
open Go.ChangeShapes Go.WideShapes Go.ChangeAt Go.RowKit
set_option linter.unusedSimpArgs false
set_option linter.unusedVariables false
set_option maxHeartbeats 8000000
set_option maxRecDepth 8000
structure PcB (w:World)(leaf:QM)(kv:Value)(sf args temps first behind:Int)(w':World):Prop where
 l1:w'.cell? ⟨w.heap.size,1,none⟩=some (.int .i64 leaf.args)
 l2:w'.cell? ⟨w.heap.size,2,none⟩=some (.int .i64 leaf.temps)
 l4:w'.cell? ⟨w.heap.size,4,none⟩=some kv
 p0:w'.cell? ⟨w.heap.size+2,0,none⟩=some (.int .i64 sf)
 p1:w'.cell? ⟨w.heap.size+2,1,none⟩=some (.int .i64 args)
 p2:w'.cell? ⟨w.heap.size+2,2,none⟩=some (.int .i64 temps)
 p3:w'.cell? ⟨w.heap.size+2,3,none⟩=some (.int .i64 first)
 p4:w'.cell? ⟨w.heap.size+2,4,none⟩=some (.int .i64 behind)
theorem xdD {lo:Nat}{w w':World}(hb:Below lo w w'){b o:Nat}{v:Value}(hl:b<lo)(h:w.cell? ⟨b,o,none⟩=some v):w'.cell? ⟨b,o,none⟩=some v:=by
 unfold World.cell? at h ⊢;rw[hb.block b hl]
 exact h
theorem PcB.below {w:World}{leaf:QM}{kv:Value}{self args temps first behind:Int}{w' w'':World}(h:PcB w leaf kv self args temps first behind w')(hb:Below (w.heap.size+3) w' w''):PcB w leaf kv self args temps first behind w'':=
 ⟨xdD hb (by omega) h.l1,xdD hb (by omega) h.l2,xdD hb (by omega) h.l4,xdD hb (by omega) h.p0,xdD hb (by omega) h.p1,xdD hb (by omega) h.p2,xdD hb (by omega) h.p3,xdD hb (by omega) h.p4⟩
theorem xpO (w:World)(leaf:QM)(kv:Value)(g:QI)(self args temps first behind:Int):PcB w leaf kv self args temps first behind (((w.alloc (.cells #[.string leaf.name,.int .i64 leaf.args,.int .i64 leaf.temps,.int .i64 leaf.prim,kv] 59)).alloc (.cells #[.int .i64 g.op,.int .i64 g.a,.int .i64 g.b,.int .i64 g.c,.string g.name] 57)).alloc (.cells #[.int .i64 self,.int .i64 args,.int .i64 temps,.int .i64 first,.int .i64 behind] 115)):=
 ⟨qzA (xbP _ _ _) (xaa w #[.string leaf.name,.int .i64 leaf.args,.int .i64 leaf.temps,.int .i64 leaf.prim,kv] 59 _ rfl 1),qzA (xbP _ _ _) (xaa w #[.string leaf.name,.int .i64 leaf.args,.int .i64 leaf.temps,.int .i64 leaf.prim,kv] 59 _ rfl 2),qzA (xbP _ _ _) (xaa w #[.string leaf.name,.int .i64 leaf.args,.int .i64 leaf.temps,.int .i64 leaf.prim,kv] 59 _ rfl 4),xaa _ _ _ _ (by simp) 0,xaa _ _ _ _ (by simp) 1,xaa _ _ _ _ (by simp) 2,xaa _ _ _ _ (by simp) 3,xaa _ _ _ _ (by simp) 4⟩
abbrev OwnI (w:World)(B:Nat)(a:Option Addr)(cap:Nat)(code:List QI):Prop:=ownsAt w B 57 5 (.slice a code.length cap) code.length (xa9 code)
theorem OwnI.more {w':World}{B cap':Nat}{a':Option Addr}{code ys:List QI}{k:Nat}{vs:List Value}(h:ownsAt w' B 57 5 (.slice a' (code.length+k) cap') (code.length+k) (xa9 code++vs))(hk:ys.length=k)(hv:xa9 ys=vs):OwnI w' B a' cap' (code++ys):=by
 unfold OwnI;rw[xeJ,List.length_append,hk,hv]
 exact h
theorem xlZ {w:World}{B B' cap:Nat}{a:Option Addr}{code:List QI}(h:OwnI w B a cap code)(hb:B'<=B):OwnI w B' a cap code:=by
 obtain⟨h1,h2 | ⟨g,o,c,cur,e,h3,h4⟩⟩:=h
 ·exact⟨h1,Or.inl h2⟩
 ·exact⟨h1,Or.inr ⟨g,o,c,cur,e,qzD hb h3,h4⟩⟩
theorem xpg {lo:Nat}{w w' w'':World}(h:Below lo w w')(k:Below w'.heap.size w' w'')(hl:lo<=w'.heap.size):Below lo w w'':=h.trans ⟨k.os,k.tape,k.output,k.size,fun b hb=>k.block b (by omega)⟩
theorem xfr {lo:Nat}{w w':World}(h:Below lo w w')(o:Obj)(hl:lo<=w'.heap.size):Below lo w (w'.alloc o):=xpg h (xak _ _) hl
theorem xlE {P:Nat->Prop}(lname:ByteArray)(A T:Nat)(lprim:Int)(lc:List QI)(g:QI)(self tm first behind:Int)(kv:Value)(w:World)(hk:xaR P w kv lc)(hA4:A<=4)(hT6:T<=6)(hs:0<=self/\self<=100)(htm:0<=tm/\tm<=200)(hf:0<=first/\first<=1000)(hl60:lc.length<=60)
  (hx:∀ x∈lc,(x.op=2\/x.op=3\/x.op=11\/x.op=15\/x.op=16)->0<=x.a/\x.a<=1000) (R:List QI) (HR:Hid (R=[g,ins 21 0 0 0]++xdd (self+1) A++[ins 11 self 0 0]++xco tm T++lc.map (xay self (self+1) tm first behind))) :
  Calls Tryz.prog 44 #[MV ⟨lname,A,T,lprim,lc⟩ kv,IV g,PlV self (self+1) tm first behind] w fun e w'=>∃ a cap,e=.returned (.slice a R.length cap)/\OwnI w' w.heap.size a cap R/\Below w.heap.size w w':=by
 obtain⟨ak,ck,rfl,hlk,hck,-,hrow⟩:=id hk;unfold maxLen at hck;have hB0:=xpO w ⟨lname,A,T,lprim,lc⟩ (.slice ak lc.length ck) g self (self+1) tm first behind
 have hb3:=xfL w (.cells #[.string lname,.int .i64 (A:Int),.int .i64 (T:Int),.int .i64 lprim,.slice ak lc.length ck] 59) (.cells #[.int .i64 g.op,.int .i64 g.a,.int .i64 g.b,.int .i64 g.c,.string g.name] 57) (.cells #[.int .i64 self,.int .i64 (self+1),.int .i64 tm,.int .i64 first,.int .i64 behind] 115)
 have hz3:(((w.alloc (.cells #[.string lname,.int .i64 (A:Int),.int .i64 (T:Int),.int .i64 lprim,.slice ak lc.length ck] 59)).alloc (.cells #[.int .i64 g.op,.int .i64 g.a,.int .i64 g.b,.int .i64 g.c,.string g.name] 57)).alloc (.cells #[.int .i64 self,.int .i64 (self+1),.int .i64 tm,.int .i64 first,.int .i64 behind] 115)).heap.size=w.heap.size+3:=by simp
 go_enter Tryz.func44,Tryz.ntmps44
 go_upto_region 2 with (fail)
 generalize (((w.alloc (.cells #[.string lname,.int .i64 (A:Int),.int .i64 (T:Int),.int .i64 lprim,.slice ak lc.length ck] 59)).alloc (.cells #[.int .i64 g.op,.int .i64 g.a,.int .i64 g.b,.int .i64 g.c,.string g.name] 57)).alloc (.cells #[.int .i64 self,.int .i64 (self+1),.int .i64 tm,.int .i64 first,.int .i64 behind] 115))=W0 at *
 simp only[Nat.add_assoc,Nat.reduceAdd];have hb4:Below (w.heap.size+3) W0 (W0.alloc (.cells #[.int .i64 g.op,.int .i64 g.a,.int .i64 g.b,.int .i64 g.c,.string g.name,.int .i64 21,.int .i64 0,.int .i64 0,.int .i64 0,.string ⟨#[]⟩] 57)):=xfr (qzL _ _) _ (by omega)
 have hz4:w.heap.size+4<=(W0.alloc (.cells #[.int .i64 g.op,.int .i64 g.a,.int .i64 g.b,.int .i64 g.c,.string g.name,.int .i64 21,.int .i64 0,.int .i64 0,.int .i64 0,.string ⟨#[]⟩] 57)).heap.size:=by simp;omega
 have hO:OwnI (W0.alloc (.cells #[.int .i64 g.op,.int .i64 g.a,.int .i64 g.b,.int .i64 g.c,.string g.name,.int .i64 21,.int .i64 0,.int .i64 0,.int .i64 0,.string ⟨#[]⟩] 57)) (w.heap.size+3) (some ⟨w.heap.size+3,0,none⟩) 2 [g,ins 21 0 0 0]:=by
  refine⟨rfl,Or.inr ⟨w.heap.size+3,0,2,_,rfl,qzC _,by rw[← hz3];exact qzJ W0 _,qzC _,by unfold maxLen;omega,qzC _,rfl⟩⟩
 have hB:=hB0.below hb4;have hbw:Below w.heap.size w (W0.alloc (.cells #[.int .i64 g.op,.int .i64 g.a,.int .i64 g.b,.int .i64 g.c,.string g.name,.int .i64 21,.int .i64 0,.int .i64 0,.int .i64 0,.string ⟨#[]⟩] 57)):=xaf hb3 (xak _ _);generalize (W0.alloc (.cells #[.int .i64 g.op,.int .i64 g.a,.int .i64 g.b,.int .i64 g.c,.string g.name,.int .i64 21,.int .i64 0,.int .i64 0,.int .i64 0,.string ⟨#[]⟩] 57))=W at *;clear hB0 hb3 hz3 hb4 hrow W0;have hwA:IntKind.i64.wrap ((A:Int)-1)=(A:Int)-1:=xat (by omega) (by omega)
 have l1:=hB.l1;dsimp only at l1;go_wp2;clear l1
 go_loopg [7,8] A (fun gk cv nv wr=>∃ (a:Option Addr) (cap:Nat) (code:List QI),nv=.int .i64 ((gk:Int)-1)/\cv=.slice a code.length cap/\OwnI wr (w.heap.size+3) a cap code/\Hid (code++xdd (self+1) gk=[g,ins 21 0 0 0]++xdd (self+1) A)/\Below (w.heap.size+3) W wr/\code.length+gk=A+2)
 case atStart=>exact⟨_,_,_,rfl,rfl,hO,rfl,qzL _ _,by simp;omega⟩
 case round=>
  clear hO;obtain⟨a,cap,code,rfl,rfl,hO,HC,hb,hcl⟩:=hrel;have hzr:w.heap.size+4<=wr.heap.size:=qzD hz4 hb.size
  have hcap:code.length<=cap/\cap<=9223372036854775807:=by
   obtain⟨a',c',e,h1,h2⟩:=hO.form
   cases e;unfold maxLen at h2;omega
  cases gk with
  | zero=>
   have HC0:Hid (code=[g,ins 21 0 0 0]++xdd (self+1) A):=by show _=_;rw[← HC.out];simp[xdd]
   have hd0:decide ((0:Int)<=((0:Nat):Int)-1)=false:=by decide
   have p0:=(hB.below hb).p0;have l2:wr.cell? ⟨w.heap.size,2,none⟩=some (.int .i64 (T:Int)):=(hB.below hb).l2
   go_upto_region 7 with (at_builtin;refine xbf rfl (.tmp 30) (.tmp 34) 47 57 _ 5 48 rfl Tryz.underlying47 xft rfl (by omega) (w.heap.size+3) code.length (.slice a code.length cap) (xa9 code) rfl (hO.alloc _) wr.heap.size rfl [.int .i64 11,.int .i64 self,.int .i64 0,.int .i64 0,.string ⟨#[]⟩] rfl (qzJ _ _) (by intro u hu;simp only[List.mem_cons,List.not_mem_nil,or_false] at hu;rcases hu with h | h | h | h | h<;>(subst h;rfl)) (by unfold maxLen;omega) (by omega) (by simp;omega) ?_;intro a1 cap1 w1 r1 r2 r3 r4)
   have hO1:=OwnI.more (ys:=[ins 11 self 0 0]) r1 rfl rfl;have hb1:=(xfr hb (.cells #[.int .i64 11,.int .i64 self,.int .i64 0,.int .i64 0,.string ⟨#[]⟩] 57) (by omega)).trans r3
   have hz1:w.heap.size+4<=w1.heap.size:=qzD hz4 hb1.size;clear r1 r2 r3 r4 hO HC p0 l2;obtain⟨C1,hC1⟩:∃ C1,C1=code++[ins 11 self 0 0]:=⟨_,rfl⟩;have hl1:code.length+1=C1.length:=by rw[hC1];simp
   have HLC:Hid (C1.length=A+3):=by show _=_;omega
   rw[← hC1] at hO1;rw[hl1];have HC1:Hid (C1=[g,ins 21 0 0 0]++xdd (self+1) A++[ins 11 self 0 0]):=by show _=_;rw[hC1,HC0.out]
   clear hC1 HC0 hl1 hcl hzr hcap;have l2:w1.cell? ⟨w.heap.size,2,none⟩=some (.int .i64 (T:Int)):=(hB.below hb1).l2;go_wp2;clear l2
   go_loopg [7,38] T (fun g2 cv iv wr=>∃ (i:Nat) (a:Option Addr) (cap:Nat),i+g2=T/\iv=.int .i64 (i:Int)/\cv=.slice a (C1++xco tm i).length cap/\OwnI wr (w.heap.size+3) a cap (C1++xco tm i)/\Below (w.heap.size+3) W wr)
   case atStart=>exact⟨0,a1,cap1,by omega,rfl,by simp[xco],by simpa [xco] using hO1,hb1⟩
   case round=>
    clear hO1 hb1 hz1 hb;obtain⟨i,a,cap,hi,rfl,rfl,hO,hb⟩:=hrel;have hzr:w.heap.size+4<=wr.heap.size:=qzD hz4 hb.size;have HCL:Hid ((C1++xco tm i).length=A+3+2*i):=by show _=_;rw[List.length_append,xdP,HLC.out]
    have hcl:(C1++xco tm i).length<=20:=by have:=HCL.out;omega
    have hcap:(C1++xco tm i).length<=cap/\cap<=9223372036854775807:=by
     obtain⟨a',c',e,h1,h2⟩:=hO.form
     cases e;unfold maxLen at h2;exact⟨h1,by omega⟩
    by_cases hlt:i<T
    ·have hd:decide ((i:Int)<(T:Int))=true:=by simp;omega
     have p2:=(hB.below hb).p2;have hw1:IntKind.i64.wrap (tm+(i:Int))=tm+(i:Int):=xat (by omega) (by omega)
     obtain⟨cd,hcd⟩:∃ cd,cd=C1++xco tm i:=⟨_,rfl⟩;have HCD:Hid (cd++[ins 6 0 0 0,ins 11 (tm+(i:Int)) 0 0]=C1++xco tm (i+1)):=by show _=_;rw[hcd,xdV];simp
     rw[← hcd] at hO hcl hcap HCL ⊢;clear hcd
     go_wp2_with (at_builtin;refine xfN rfl (.tmp 41) (.tmp 48) 47 57 _ 5 48 rfl Tryz.underlying47 xft rfl (by omega) (w.heap.size+3) cd.length (.slice a cd.length cap) (xa9 cd) rfl (hO.alloc _) ⟨wr.heap.size,0,none⟩ 2 2 (by omega) rfl [.int .i64 6,.int .i64 0,.int .i64 0,.int .i64 0,.string ⟨#[]⟩,.int .i64 11,.int .i64 (tm+(i:Int)),.int .i64 0,.int .i64 0,.string ⟨#[]⟩] rfl (fun j u hj=>by rw[Addr.add_lit,Nat.zero_add,qzB (qzJ _ _)];simpa using hj) (by intro u hu;simp only[List.mem_cons,List.not_mem_nil,or_false] at hu;rcases hu with h | h | h | h | h | h | h | h | h | h<;>(subst h;rfl)) (by unfold maxLen;omega) (by omega) (by simp;omega) ?_;intro a' cap' w' r1 r2 r3 r4;have hO':=xcr (OwnI.more (ys:=[ins 6 0 0 0,ins 11 (tm+(i:Int)) 0 0]) r1 rfl rfl);have hb':=xcr ((xfr hb (.cells #[.int .i64 6,.int .i64 0,.int .i64 0,.int .i64 0,.string ⟨#[]⟩,.int .i64 11,.int .i64 (tm+(i:Int)),.int .i64 0,.int .i64 0,.string ⟨#[]⟩] 57) (by omega)).trans r3);clear r1 r2 r3 r4)
     go_roundg (T-(i+1))
     case measure=>omega
     case rel=>
      refine⟨i+1,_,_,by omega,by go_num,?_,by rw[← HCD.out];exact hO'.out,hb'.out⟩
      rw[← HCD.out];simp
    ·obtain rfl:i=T:=by omega
     have hd:decide ((i:Int)<(i:Int))=false:=by simp
     obtain⟨C2,hC2⟩:∃ C2,C2=C1++xco tm i:=⟨_,rfl⟩;have HC2:Hid (C2=[g,ins 21 0 0 0]++xdd (self+1) A++[ins 11 self 0 0]++xco tm i):=by show _=_;rw[hC2,HC1.out]
     rw[← hC2] at hO hcl hcap HCL ⊢;clear hC2 HC1 HLC hlt hi;have l4:wr.cell? ⟨w.heap.size,4,none⟩=some (.slice ak lc.length ck):=(hB.below hb).l4;go_wp2;clear l4
     go_loopg [7,54] lc.length (fun g3 cv iv wr=>∃ (k:Nat) (a:Option Addr) (cap:Nat),k+g3=lc.length/\iv=.int .i64 (k:Int)/\cv=.slice a (C2++(lc.take k).map (xay self (self+1) tm first behind)).length cap/\OwnI wr (w.heap.size+3) a cap (C2++(lc.take k).map (xay self (self+1) tm first behind))/\Below (w.heap.size+3) W wr)
     case atStart=>exact⟨0,a,cap,by omega,rfl,by simp,by simpa using hO,hb⟩
     case round=>
      clear hO hb hzr hcap;obtain⟨k,a,cap,hkk,rfl,rfl,hO,hb⟩:=hrel;have hzr:w.heap.size+4<=wr.heap.size:=qzD hz4 hb.size;have hcl2:(C2++(lc.take k).map (xay self (self+1) tm first behind)).length<=100:=by have:=HCL.out;simp;omega
      have hcap:(C2++(lc.take k).map (xay self (self+1) tm first behind)).length<=cap/\cap<=9223372036854775807:=by
       obtain⟨a',c',e,h1,h2⟩:=hO.form
       cases e;unfold maxLen at h2;exact⟨h1,by omega⟩
      have hbr:Below w.heap.size w wr:=hbw.trans ⟨hb.os,hb.tape,hb.output,hb.size,fun b hb'=>hb.block b (by omega)⟩
      by_cases hlt:k<lc.length
      ·have hxk:lc[k]?=some lc[k]:=by simp[hlt]
       obtain⟨ad2,cap2,e2,-,-,-,hrow⟩:=hk.later xa2 hbr
       cases e2
       obtain⟨b,o,rfl,-,u0,u1,u2,u3,u4,-⟩:=hrow k lc[k] hxk;have hxa:=hx lc[k] (List.getElem_mem hlt);have HTK:Hid (C2++(lc.take (k+1)).map (xay self (self+1) tm first behind)=C2++(lc.take k).map (xay self (self+1) tm first behind)++[xay self (self+1) tm first behind lc[k]]):=by show _=_;rw[List.take_add_one,hxk,List.map_append,← List.append_assoc];rfl
       generalize lc[k]=x at *;simp only[Nat.add_zero] at u0;obtain⟨cd,hcd⟩:∃ cd,cd=C2++(lc.take k).map (xay self (self+1) tm first behind):=⟨_,rfl⟩
       rw[← hcd] at hO hcl2 hcap HTK ⊢;clear hcd hrow hxk;have hk1:(k:Int)<(lc.length:Int):=by omega
       have hk0:(0:Int)<=(k:Int):=by omega
       have hbx:=xak wr (.cells #[.int .i64 x.op,.int .i64 x.a,.int .i64 x.b,.int .i64 x.c,.string x.name] 57);have hBx:=(hB.below hb).below (⟨hbx.os,hbx.tape,hbx.output,hbx.size,fun b hb'=>hbx.block b (by omega)⟩:Below (w.heap.size+3) _ _)
       obtain⟨-,-,-,p0,p1,p2,p3,p4⟩:=hBx;go_wp2_with fail;refine (xjZ self (self+1) tm first behind x _ (by omega) (by omega) hf hxa).mono ?_
       rintro e w1 ⟨rfl,hb1⟩;dsimp only;generalize xay self (self+1) tm first behind x=y at *
       have hO1:OwnI w1 (w.heap.size+3) a cap cd:=hO.keep fun g hg=>by rw[hb1.block g (by have:=(hO.lt g hg).2;simp;omega),hbx.block g (hO.lt g hg).2]
       have hbB:Below (w.heap.size+3) W w1:=xpg (xfr hb (.cells #[.int .i64 x.op,.int .i64 x.a,.int .i64 x.b,.int .i64 x.c,.string x.name] 57) (by omega)) hb1 (by simp;omega)
       have hz1:w.heap.size+4<=w1.heap.size:=qzD hz4 hbB.size;clear p0 p1 p2 p3 p4 u0 u1 u2 u3 u4 hO hb hbx hb1
       go_wp2_with (at_builtin;refine xbf rfl (.tmp 58) (.tmp 62) 47 57 _ 5 48 rfl Tryz.underlying47 xft rfl (by omega) (w.heap.size+3) cd.length (.slice a cd.length cap) (xa9 cd) rfl (hO1.alloc _) w1.heap.size rfl [.int .i64 y.op,.int .i64 y.a,.int .i64 y.b,.int .i64 y.c,.string y.name] rfl (qzJ _ _) (by intro u hu;simp only[List.mem_cons,List.not_mem_nil,or_false] at hu;rcases hu with h | h | h | h | h<;>(subst h;rfl)) (by unfold maxLen;omega) (by omega) (by simp;omega) ?_;intro a' cap' w' r1 r2 r3 r4;have hO':=xcr (OwnI.more (ys:=[y]) r1 rfl rfl);have hb':=xcr ((xfr hbB (.cells #[.int .i64 y.op,.int .i64 y.a,.int .i64 y.b,.int .i64 y.c,.string y.name] 57) (by omega)).trans r3);clear r1 r2 r3 r4)
       go_roundg (lc.length-(k+1))
       case measure=>omega
       case rel=>
        refine⟨k+1,_,_,by omega,by go_num,?_,by rw[HTK.out];exact hO'.out,hb'.out⟩
        rw[HTK.out];simp
      ·obtain rfl:k=lc.length:=by omega
       have HE:Hid (C2++(lc.take lc.length).map (xay self (self+1) tm first behind)=R):=by show _=_;rw[HR.out,HC2.out,List.take_length]
       rw[HE.out] at hO ⊢;have HO:=xcr (xlZ (B':=w.heap.size) hO (by omega))
       have HBR:=xcr hbr;clear hO hbr hcl2 hcap;go_wp2
       go_ret
       exact⟨_,_,rfl,HO.out,HBR.out⟩
  | succ j=>
   have hnn:(((j+1:Nat):Int)-1)=(j:Int):=by omega
   rw[hnn];have hd0:decide ((0:Int)<=(j:Int))=true:=by simp
   have p1:=(hB.below hb).p1;have hw1:IntKind.i64.wrap (self+1+(j:Int))=self+1+(j:Int):=xat (by omega) (by omega)
   have hw2:IntKind.i64.wrap ((j:Int)-1)=(j:Int)-1:=xat (by omega) (by omega)
   go_wp2_with (at_builtin;refine xbf rfl (.tmp 22) (.tmp 28) 47 57 _ 5 48 rfl Tryz.underlying47 xft rfl (by omega) (w.heap.size+3) code.length (.slice a code.length cap) (xa9 code) rfl (hO.alloc _) wr.heap.size rfl [.int .i64 11,.int .i64 (self+1+(j:Int)),.int .i64 0,.int .i64 0,.string ⟨#[]⟩] rfl (qzJ _ _) (by intro u hu;simp only[List.mem_cons,List.not_mem_nil,or_false] at hu;rcases hu with h | h | h | h | h<;>(subst h;rfl)) (by unfold maxLen;omega) (by omega) (by simp;omega) ?_;intro a' cap' w' r1 r2 r3 r4;have hO':=xcr (OwnI.more (ys:=[ins 11 (self+1+(j:Int)) 0 0]) r1 rfl rfl);have hb':=xcr ((xfr hb (.cells #[.int .i64 11,.int .i64 (self+1+(j:Int)),.int .i64 0,.int .i64 0,.string ⟨#[]⟩] 57) (by omega)).trans r3);clear r1 r2 r3 r4)
   go_roundg j
   case measure=>omega
   case rel=>exact⟨_,_,_,by go_num,by simp,hO'.out,by show _=_;rw[← HC.out];simp[xdd],hb'.out,by simp;omega⟩
theorem xmH {P:Nat->Prop}(leaf:QM)(g:QI)(self n:Int)(kv:Value)(w:World)(hk:xaR P w kv leaf.code)(ha:0<=leaf.args/\leaf.args<=4)(ht:0<=leaf.temps/\leaf.temps<=6)(hs:0<=self/\self<=100)(hn:0<=n/\n<=300)(hl60:leaf.code.length<=60)
  (hx:∀ x∈leaf.code,(x.op=2\/x.op=3\/x.op=11\/x.op=15\/x.op=16)->0<=x.a/\x.a<=1000) :
  Calls Tryz.prog 44 #[MV leaf kv,IV g,PlV self (self+1) (self+1+leaf.args) (xbw leaf n) (xbw leaf n+leaf.code.length)] w fun e w'=>∃ a cap,e=.returned (.slice a (xbu leaf g self n).length cap)/\OwnI w' w.heap.size a cap (xbu leaf g self n)/\Below w.heap.size w w':=by
 obtain⟨lname,largs,ltemps,lprim,lc⟩:=leaf;obtain⟨A,rfl⟩:∃ A:Nat,largs=(A:Int):=⟨largs.toNat,by simp only at ha;omega⟩
 obtain⟨T,rfl⟩:∃ T:Nat,ltemps=(T:Int):=⟨ltemps.toNat,by simp only at ht;omega⟩
 simp only at ha ht hl60 hx hk;refine xlE lname A T lprim lc g self _ _ _ kv w hk (by omega) (by omega) hs (by simp only;omega) (by unfold xbw;simp only;omega) hl60 hx _ ?_
 show _=_
 unfold xbu xfy
 simp
def xgw (xs:List QC)(c k:Int):Option QM:=(xbx xs c).bind fun x=>if 0<=k then x.mz[k.toNat]? else none
theorem xkO {P:Nat->Prop}(X:QW)(c k:Int)(cv hv:Value)(w:World)(hC:xai P w cv X.cz)(hH:xaD P w hv X.heap):Calls Tryz.prog 40 #[WV cv hv X.ez,.int .i64 c,.int .i64 k] w fun e w'=>e=.returned (.bool (xgw X.cz c k).isSome)/\Below w.heap.size w w':=by
 obtain⟨ac,cc,rfl,hl,hcc,-,hrow⟩:=id hC;obtain⟨ah,ch,rfl,-⟩:=id hH;unfold maxLen at hcc;have hb0:=xak w (.cells #[.slice ac X.cz.length cc,.slice ah X.heap.length ch,.int .i64 X.ez] 25)
 by_cases hc0:0<=c
 ·obtain⟨q,rfl⟩:∃ q:Nat,c=(q:Int):=⟨c.toNat,by omega⟩
  have hd0:decide ((0:Int)<=(q:Int))=true:=by simp
  by_cases hq:q<X.cz.length
  ·have hx:X.cz[q]?=some X.cz[q]:=by simp[hq]
   have HM:Hid (xgw X.cz (q:Int) k=if 0<=k then X.cz[q].mz[k.toNat]? else none):=by show _=_;unfold xgw;rw[xeN,hx];rfl
   obtain⟨b,o,rfl,-,-,-,-,-,mv,y3,hms⟩:=hrow q _ hx;generalize X.cz[q]=xc at *;obtain⟨am,cm,rfl,-⟩:=id hms;have u3:=qzA hb0 y3;have hq1:(q:Int)<(X.cz.length:Int):=by omega
   have hq0:(0:Int)<=(q:Int):=by omega
   clear hrow y3 hms
   by_cases hk:0<=k
   ·have HM2:Hid ((xgw X.cz (q:Int) k).isSome=decide (k<(xc.mz.length:Int))):=by
     show _=_
     rw[HM.out,if_pos hk]
     by_cases h:k<(xc.mz.length:Int)
     ·rw[List.getElem?_eq_getElem (by omega)];simp[h]
     ·rw[List.getElem?_eq_none (by omega)];simp[h]
    go_enter Tryz.func40,Tryz.ntmps40;go_wp2
    go_ret
    exact⟨xby HM2.out.symm,hb0⟩
   ·have HM2:Hid ((xgw X.cz (q:Int) k).isSome=false):=by show _=_;rw[HM.out,if_neg hk];rfl
    have hkn:¬ (0<=k):=hk;go_enter Tryz.func40,Tryz.ntmps40;go_wp2
    go_ret
    exact⟨xby HM2.out.symm,hb0⟩
  ·have HM2:Hid ((xgw X.cz (q:Int) k).isSome=false):=by show _=_;unfold xgw;rw[xeN,List.getElem?_eq_none (by omega)];rfl
   have hqn:¬ ((q:Int)<(X.cz.length:Int)):=by omega
   clear hrow;go_enter Tryz.func40,Tryz.ntmps40;go_wp2
   go_ret
   exact⟨xby HM2.out.symm,hb0⟩
 ·have HM2:Hid ((xgw X.cz c k).isSome=false):=by show _=_;unfold xgw xbx;rw[if_neg hc0];rfl
  clear hrow;go_enter Tryz.func40,Tryz.ntmps40;go_wp2
  go_ret
  exact⟨xby HM2.out.symm,hb0⟩
theorem xf1:∀ (q:List QI) (i:Nat) (t:Int),(xa9 q).set (i*5+1) (.int .i64 t)=xa9 (q.modify i fun y=>{ y with a:=t })
 | [],i,t=>by simp[xa9]
 | p :: q,0,t=>by simp[xa9]
 | p :: q,i+1,t=>by
  rw[show (i+1)*5+1=i*5+1+1+1+1+1+1 by omega]
  simp only[xa9,List.set_cons_succ,List.modify_succ_cons];rw[xf1 q i t]
theorem OwnI.setA {w:World}{B g o cap:Nat}{code:List QI}(h:OwnI w B (some ⟨g,o,none⟩) cap code){p:Nat}(hp:p<code.length)(t:Int):OwnI (w.setCell ⟨g,o+p*5+1,none⟩ (.int .i64 t)) B (some ⟨g,o,none⟩) cap (code.modify p fun y=>{ y with a:=t }):=by
 obtain⟨h1,h2 | ⟨g',o',c',cur,e,h3,h4,h5,h6,h7,h8⟩⟩:=h
 ·have:=h2.2;omega
 ·cases e
  unfold OwnI;rw[List.length_modify];refine⟨by rw[xdT,List.length_modify],Or.inr ⟨g,o,cap,_,rfl,h3,xag h4 _,h5,h6,by simpa using h7,?_⟩⟩
  rw[← xf1,← h8];simp only[Array.toList_setIfInBounds,List.drop_set,List.take_set];rw[if_neg (by omega),show o+p*5+1-o=p*5+1 by omega,List.take_set]
theorem xo3 {P Q:Nat->Prop}(code plain:List QI)(begins:List Int)(g o cap B:Nat)(kv bv:Value)(w:World)(hO:OwnI w B (some ⟨g,o,none⟩) cap code)(hP:xaR P w kv plain)(hQ:xc5 Q w bv begins)(hPg:∀ b,P b->b≠g)(hQg:∀ b,Q b->b≠g)(hlen:begins.length=plain.length)(hl60:plain.length<=60)(hin:∀ b∈begins,0<=b/\b<(code.length:Int)) :
  Calls Tryz.prog 46 #[.slice (some ⟨g,o,none⟩) code.length cap,kv,bv] w fun e w'=>e=.returned (.tuple #[])/\OwnI w' B (some ⟨g,o,none⟩) cap (xdC begins plain code plain.length)/\Below B w w'/\∀ b,b<w.heap.size->b≠g->w'.heap[b]?=w.heap[b]?:=by
 obtain⟨ak,ck,rfl,-,hck,-,hrowP⟩:=id hP;obtain⟨ab,cb,rfl,-,hcb,-,hrowQ⟩:=id hQ
 have hcap:code.length<=cap/\cap<=9223372036854775807:=by
  obtain⟨a',c',e,h1,h2⟩:=hO.form
  cases e;unfold maxLen at h2;omega
 unfold maxLen at hck hcb;have hBg:B<=g:=(hO.lt g rfl).1;have hgw:g<w.heap.size:=(hO.lt g rfl).2;generalize hn:code.length=n at *;have HIN:=xcr hin;have HLEN:=xcr hlen;clear hin hlen;go_enter Tryz.func46,Tryz.ntmps46;go_wp2
 go_loopg [10] plain.length (fun gk iv wr=>∃ j:Nat,j+gk=plain.length/\iv=.int .i64 (j:Int)/\OwnI wr B (some ⟨g,o,none⟩) cap (xdC begins plain code j)/\Below B w wr/\(∀ b,b<w.heap.size->b≠g->wr.heap[b]?=w.heap[b]?)/\w.heap.size<=wr.heap.size)
 case atStart=>exact⟨0,by omega,rfl,hO,qzL _ _,fun _ _ _=>rfl,qzC _⟩
 case round=>
  clear hO;obtain⟨j,hj,rfl,hO,hb,hblk,hsz⟩:=hrel;have hlj:(xdC begins plain code j).length=n:=by rw[xdi,hn]
  by_cases hlt:j<plain.length
  ·have hxj:plain[j]?=some plain[j]:=by simp[hlt]
   obtain⟨pz,hbj⟩:∃ pz,begins[j]?=some pz:=⟨begins[j]'(by have:=HLEN.out;omega),by simp⟩
   have hpz:=HIN.out pz (List.mem_of_getElem? hbj);obtain⟨p,rfl⟩:∃ p:Nat,pz=(p:Int):=⟨pz.toNat,by omega⟩
   obtain⟨b1,o1,rfl,hPb,u0,u1,u2,u3,u4,-⟩:=hrowP j _ hxj;obtain⟨bb,ob,rfl,hQb,y0⟩:=hrowQ j _ hbj;generalize plain[j]=x at *;have hb1l:b1<w.heap.size:=World.block_lt_of_cell? w _ u0;have hbbl:bb<w.heap.size:=World.block_lt_of_cell? w _ y0;have hcell:∀ (b o:Nat) v,b<w.heap.size->b≠g->w.cell? ⟨b,o,none⟩=some v->wr.cell? ⟨b,o,none⟩=some v:=fun b o v h1 h2 h=>by unfold World.cell? at h ⊢;rw[hblk b h1 h2];exact h
   simp only[Nat.add_zero] at u0;replace u0:=hcell _ _ _ hb1l (hPg _ hPb) u0;replace u1:=hcell _ _ _ hb1l (hPg _ hPb) u1;replace u2:=hcell _ _ _ hb1l (hPg _ hPb) u2;replace u3:=hcell _ _ _ hb1l (hPg _ hPb) u3;replace u4:=hcell _ _ _ hb1l (hPg _ hPb) u4;replace y0:wr.cell? ⟨bb,ob+j,none⟩=some (.int .i64 (p:Int)):=hcell _ _ _ hbbl (hQg _ hQb) (by simpa [xpr] using y0)
   have hj1:(j:Int)<(plain.length:Int):=by omega
   have hj0:(0:Int)<=(j:Int):=by omega
   have hjb:(j:Int)<(begins.length:Int):=by have:=HLEN.out;omega
   have hbx:=xak wr (.cells #[.int .i64 x.op,.int .i64 x.a,.int .i64 x.b,.int .i64 x.c,.string x.name] 57)
   have HLS:Hid (xdC begins plain code (j+1)=match xeh begins x with | some t=>(xdC begins plain code j).modify p (fun y=>{ y with a:=t }) | none=>xdC begins plain code j):=by
    show _=_
    conv=>lhs;unfold xdC
    rw[hxj,hbj]
    cases h:xeh begins x with
    | none=>simp only[h]
    | some t=>simp only[h,Int.toNat_natCast]
   have HNX:Hid (xeh begins x=none->∃ j':Nat,j'+(plain.length-(j+1))=plain.length/\Value.int .i64 ((j:Int)+1)=.int .i64 (j':Int)/\OwnI (wr.alloc (.cells #[.int .i64 x.op,.int .i64 x.a,.int .i64 x.b,.int .i64 x.c,.string x.name] 57)) B (some ⟨g,o,none⟩) cap (xdC begins plain code j')/\Below B w (wr.alloc (.cells #[.int .i64 x.op,.int .i64 x.a,.int .i64 x.b,.int .i64 x.c,.string x.name] 57))/\(∀ b,b<w.heap.size->b≠g->(wr.alloc (.cells #[.int .i64 x.op,.int .i64 x.a,.int .i64 x.b,.int .i64 x.c,.string x.name] 57)).heap[b]?=w.heap[b]?)/\w.heap.size<=(wr.alloc (.cells #[.int .i64 x.op,.int .i64 x.a,.int .i64 x.b,.int .i64 x.c,.string x.name] 57)).heap.size):=fun h=>by
    refine⟨j+1,by omega,by go_num,?_,xfr hb _ (by omega),fun b h1 h2=>by rw[hbx.block b (by omega)];exact hblk b h1 h2,by simp;omega⟩
    rw[HLS.out,h]
    exact hO.alloc _
   have hwj:IntKind.i64.wrap ((j:Int)+1)=(j:Int)+1:=xat (by omega) (by omega)
   clear hxj hbj hcell
   by_cases hjp:(x.op=15\/x.op=16)/\0<=x.a/\x.a<(begins.length:Int)
   ·obtain⟨hop,ha0,ha1⟩:=hjp;obtain⟨xa,hxa⟩:∃ xa:Nat,x.a=(xa:Int):=⟨x.a.toNat,by omega⟩
    obtain⟨tt,htt⟩:∃ tt,begins[xa]?=some tt:=⟨begins[xa]'(by omega),by simp⟩
    have HLD:Hid (xeh begins x=some tt):=by show _=_;unfold xeh;rw[if_pos ⟨hop,ha0⟩,hxa];simpa using htt
    obtain⟨bb',ob',eb,-,t0⟩:=hrowQ xa tt htt
    cases eb
    replace t0:wr.cell? ⟨bb,ob+xa,none⟩=some (.int .i64 tt):=by
     have h:w.cell? ⟨bb,ob+xa,none⟩=some (.int .i64 tt):=by simpa [xpr] using t0
     unfold World.cell? at h ⊢;rw[hblk bb hbbl (hQg _ hQb)];exact h
    have hxa1:(xa:Int)<(begins.length:Int):=by omega
    have hxa0:(0:Int)<=(xa:Int):=by omega
    have hda:decide ((0:Int)<=(xa:Int))=true:=by simp
    have hdb:decide ((xa:Int)<(begins.length:Int))=true:=by simp;omega
    have hp1:(p:Int)<(n:Int):=by omega
    have hp0:(0:Int)<=(p:Int):=by omega
    rw[hxa] at u1;have hO1:OwnI (wr.alloc (.cells #[.int .i64 x.op,.int .i64 (xa:Int),.int .i64 x.b,.int .i64 x.c,.string x.name] 57)) B (some ⟨g,o,none⟩) cap (xdC begins plain code j):=hO.alloc _;have hset:=xcr (OwnI.setA hO1 (p:=p) (by omega) tt)
    have hgr:g<wr.heap.size:=(hO.lt g rfl).2
    have hcg:∃ u,(wr.alloc (.cells #[.int .i64 x.op,.int .i64 (xa:Int),.int .i64 x.b,.int .i64 x.c,.string x.name] 57)).cell? ⟨g,o+p*5+1,none⟩=some u/\∀ k,(wr.alloc (.cells #[.int .i64 x.op,.int .i64 (xa:Int),.int .i64 x.b,.int .i64 x.c,.string x.name] 57)).frozen? ⟨g,k,none⟩=false:=by
     obtain⟨h1,h2 | ⟨g',o',c',cur,e,h3,h4,h5,h6,h7,h8⟩⟩:=hO1
     ·have:=h2.2;omega
     ·cases e
      refine⟨_,by rw[qzB h4];exact Array.getElem?_eq_getElem (by omega),xbT h4⟩
    obtain⟨ug,hug,hgf⟩:=hcg;have hbx':=xak wr (.cells #[.int .i64 x.op,.int .i64 (xa:Int),.int .i64 x.b,.int .i64 x.c,.string x.name] 57);have y0':=qzA hbx' y0;have t0':=qzA hbx' t0;have x1':(wr.alloc (.cells #[.int .i64 x.op,.int .i64 (xa:Int),.int .i64 x.b,.int .i64 x.c,.string x.name] 57)).cell? ⟨wr.heap.size,1,none⟩=some (.int .i64 (xa:Int)):=xaa _ _ _ _ rfl 1;have HXA:=xcr hxa;have HBB:=xcr (And.intro hblk (And.intro hb hsz));clear hxa ha0 ha1 htt hO hO1 HNX hrowQ hrowP
    have hfin:Hid (∃ j':Nat,j'+(plain.length-(j+1))=plain.length/\Value.int .i64 ((j:Int)+1)=.int .i64 (j':Int)/\OwnI (((wr.alloc (.cells #[.int .i64 x.op,.int .i64 (xa:Int),.int .i64 x.b,.int .i64 x.c,.string x.name] 57))).setCell ⟨g,o+p*5+1,none⟩ (.int .i64 tt)).drew B (some ⟨g,o,none⟩) cap (xdC begins plain code j')/\Below B w (((wr.alloc (.cells #[.int .i64 x.op,.int .i64 (xa:Int),.int .i64 x.b,.int .i64 x.c,.string x.name] 57))).setCell ⟨g,o+p*5+1,none⟩ (.int .i64 tt)).drew/\(∀ b,b<w.heap.size->b≠g->(((wr.alloc (.cells #[.int .i64 x.op,.int .i64 (xa:Int),.int .i64 x.b,.int .i64 x.c,.string x.name] 57))).setCell ⟨g,o+p*5+1,none⟩ (.int .i64 tt)).drew.heap[b]?=w.heap[b]?)/\w.heap.size<=(((wr.alloc (.cells #[.int .i64 x.op,.int .i64 (xa:Int),.int .i64 x.b,.int .i64 x.c,.string x.name] 57))).setCell ⟨g,o+p*5+1,none⟩ (.int .i64 tt)).drew.heap.size):=by
     obtain⟨h1,h2,h3⟩:=HBB.out;refine⟨j+1,by omega,by go_num,?_,((xfr h2 _ (by omega)).setCell hBg _).drew,fun b hb1 hb2=>?_,by simp;omega⟩
     ·rw[HLS.out,HLD.out]
      exact hset.out.keep fun g hg=>rfl
     ·show (World.setCell _ _ _).heap[b]?=_
      rw[xac hb2,hbx'.block b (by omega)]
      exact h1 b hb1 hb2
    rcases hop with hop | hop
    ·have hd15:(x.op == 15)=true:=by simpa using hop
     clear hop
     go_upto_region 4 with (fail)
     generalize (wr.alloc (.cells #[.int .i64 x.op,.int .i64 (xa:Int),.int .i64 x.b,.int .i64 x.c,.string x.name] 57))=V at *;have hS0:V.drew.cell? ⟨bb,ob+j,none⟩=some (.int .i64 (p:Int))/\V.drew.cell? ⟨wr.heap.size,1,none⟩=some (.int .i64 (xa:Int))/\V.drew.cell? ⟨bb,ob+xa,none⟩=some (.int .i64 tt):=⟨y0',x1',t0'⟩;refine xav (S:=fun w'=>w'.cell? ⟨bb,ob+j,none⟩=some (.int .i64 (p:Int))/\w'.cell? ⟨wr.heap.size,1,none⟩=some (.int .i64 (xa:Int))/\w'.cell? ⟨bb,ob+xa,none⟩=some (.int .i64 tt)) [12] (by kernel_rfl) ?_
     refine tj 0 (⟨some 35,.move (.tmp 0),47,_,_,none⟩) (.slice (some ⟨g,o,none⟩) n cap) (hS0) ?_ ?_
     ·rintro w⟨q0,q1,q2⟩;go_simp
     try simp only[Act.put,qzF,qzG,qzH]
     refine tj 1 (⟨some 36,.move (.tmp 2),87,_,_,none⟩) (.slice (some ⟨bb,ob,none⟩) begins.length cb) (hS0) ?_ ?_
     ·rintro w⟨q0,q1,q2⟩;go_simp
     try simp only[Act.put,qzF,qzG,qzH]
     refine tj 2 (⟨some 37,.move (.tmp 6),3,_,_,none⟩) (.int .i64 (j:Int)) (hS0) ?_ ?_
     ·rintro w⟨q0,q1,q2⟩;go_simp
     try simp only[Act.put,qzF,qzG,qzH]
     refine tj 3 (⟨some 38,.indexAddr 87 (.tmp 36) (.tmp 37),0,_,_,none⟩) (.pointer (some ⟨bb,ob+j,none⟩)) (hS0) ?_ ?_
     ·rintro w⟨q0,q1,q2⟩;go_simp
     try simp only[Act.put,qzF,qzG,qzH]
     refine tj 4 (⟨some 39,.load 3 (.tmp 38),3,_,_,none⟩) (.int .i64 (p:Int)) (hS0) ?_ ?_
     ·rintro w⟨q0,q1,q2⟩;go_simp
     try simp only[Act.put,qzF,qzG,qzH]
     refine tj 5 (⟨some 40,.move (.tmp 2),87,_,_,none⟩) (.slice (some ⟨bb,ob,none⟩) begins.length cb) (hS0) ?_ ?_
     ·rintro w⟨q0,q1,q2⟩;go_simp
     try simp only[Act.put,qzF,qzG,qzH]
     refine tj 6 (⟨some 41,.fieldAddr 57 (.tmp 7) 1,0,_,_,none⟩) (.pointer (some ⟨wr.heap.size,1,none⟩)) (hS0) ?_ ?_
     ·rintro w⟨q0,q1,q2⟩;go_simp
     try simp only[Act.put,qzF,qzG,qzH]
     refine tj 7 (⟨some 42,.load 3 (.tmp 41),3,_,_,none⟩) (.int .i64 (xa:Int)) (hS0) ?_ ?_
     ·rintro w⟨q0,q1,q2⟩;go_simp
     try simp only[Act.put,qzF,qzG,qzH]
     refine tj 8 (⟨some 43,.indexAddr 87 (.tmp 40) (.tmp 42),0,_,_,none⟩) (.pointer (some ⟨bb,ob+xa,none⟩)) (hS0) ?_ ?_
     ·rintro w⟨q0,q1,q2⟩;go_simp
     try simp only[Act.put,qzF,qzG,qzH]
     refine tj 9 (⟨some 44,.load 3 (.tmp 43),3,_,_,none⟩) (.int .i64 tt) (hS0) ?_ ?_
     ·rintro w⟨q0,q1,q2⟩;go_simp
     try simp only[Act.put,qzF,qzG,qzH]
     refine tj 10 (⟨some 45,.indexAddr 47 (.tmp 35) (.tmp 39),0,_,_,none⟩) (.pointer (some ⟨g,o+p*5,none⟩)) (hS0) ?_ ?_
     ·rintro w⟨q0,q1,q2⟩;go_simp
     try simp only[Act.put,qzF,qzG,qzH]
     refine tj 11 (⟨some 46,.fieldAddr 57 (.tmp 45) 1,0,_,_,none⟩) (.pointer (some ⟨g,o+p*5+1,none⟩)) (hS0) ?_ ?_
     ·rintro w⟨q0,q1,q2⟩;go_simp
     try simp only[Act.put,qzF,qzG,qzH]
     refine xab (rs:=[12]) (by kernel_rfl) (by simp) ?_
     intro i hi;simp only[List.mem_cons,List.not_mem_nil,or_false] at hi;subst hi;refine xaN (o:=⟨none,.store 3 (.tmp 46) (.tmp 44),0,_,_,none⟩) rfl (fun K' hK=>?_)
     go_simp;refine hK _ _ (fun h=>absurd h (by decide)) ?_
     clear hK K'
     try simp only[Act.put,qzF,qzG,qzH]
     refine xaz (by kernel_rfl) ?_ _
     try simp only[Act.put,qzF,qzG,qzH]
     go_wp2
     go_roundg (plain.length-(j+1))
     case measure=>omega
     case rel=>exact hfin.out
    ·have hd15:(x.op == 15)=false:=by simp[hop]
     have hd16:(x.op == 16)=true:=by simpa using hop
     clear hop
     go_upto_region 4 with (fail)
     generalize (wr.alloc (.cells #[.int .i64 x.op,.int .i64 (xa:Int),.int .i64 x.b,.int .i64 x.c,.string x.name] 57))=V at *;have hS0:V.drew.cell? ⟨bb,ob+j,none⟩=some (.int .i64 (p:Int))/\V.drew.cell? ⟨wr.heap.size,1,none⟩=some (.int .i64 (xa:Int))/\V.drew.cell? ⟨bb,ob+xa,none⟩=some (.int .i64 tt):=⟨y0',x1',t0'⟩;refine xav (S:=fun w'=>w'.cell? ⟨bb,ob+j,none⟩=some (.int .i64 (p:Int))/\w'.cell? ⟨wr.heap.size,1,none⟩=some (.int .i64 (xa:Int))/\w'.cell? ⟨bb,ob+xa,none⟩=some (.int .i64 tt)) [12] (by kernel_rfl) ?_
     refine tj 0 (⟨some 35,.move (.tmp 0),47,_,_,none⟩) (.slice (some ⟨g,o,none⟩) n cap) (hS0) ?_ ?_
     ·rintro w⟨q0,q1,q2⟩;go_simp
     try simp only[Act.put,qzF,qzG,qzH]
     refine tj 1 (⟨some 36,.move (.tmp 2),87,_,_,none⟩) (.slice (some ⟨bb,ob,none⟩) begins.length cb) (hS0) ?_ ?_
     ·rintro w⟨q0,q1,q2⟩;go_simp
     try simp only[Act.put,qzF,qzG,qzH]
     refine tj 2 (⟨some 37,.move (.tmp 6),3,_,_,none⟩) (.int .i64 (j:Int)) (hS0) ?_ ?_
     ·rintro w⟨q0,q1,q2⟩;go_simp
     try simp only[Act.put,qzF,qzG,qzH]
     refine tj 3 (⟨some 38,.indexAddr 87 (.tmp 36) (.tmp 37),0,_,_,none⟩) (.pointer (some ⟨bb,ob+j,none⟩)) (hS0) ?_ ?_
     ·rintro w⟨q0,q1,q2⟩;go_simp
     try simp only[Act.put,qzF,qzG,qzH]
     refine tj 4 (⟨some 39,.load 3 (.tmp 38),3,_,_,none⟩) (.int .i64 (p:Int)) (hS0) ?_ ?_
     ·rintro w⟨q0,q1,q2⟩;go_simp
     try simp only[Act.put,qzF,qzG,qzH]
     refine tj 5 (⟨some 40,.move (.tmp 2),87,_,_,none⟩) (.slice (some ⟨bb,ob,none⟩) begins.length cb) (hS0) ?_ ?_
     ·rintro w⟨q0,q1,q2⟩;go_simp
     try simp only[Act.put,qzF,qzG,qzH]
     refine tj 6 (⟨some 41,.fieldAddr 57 (.tmp 7) 1,0,_,_,none⟩) (.pointer (some ⟨wr.heap.size,1,none⟩)) (hS0) ?_ ?_
     ·rintro w⟨q0,q1,q2⟩;go_simp
     try simp only[Act.put,qzF,qzG,qzH]
     refine tj 7 (⟨some 42,.load 3 (.tmp 41),3,_,_,none⟩) (.int .i64 (xa:Int)) (hS0) ?_ ?_
     ·rintro w⟨q0,q1,q2⟩;go_simp
     try simp only[Act.put,qzF,qzG,qzH]
     refine tj 8 (⟨some 43,.indexAddr 87 (.tmp 40) (.tmp 42),0,_,_,none⟩) (.pointer (some ⟨bb,ob+xa,none⟩)) (hS0) ?_ ?_
     ·rintro w⟨q0,q1,q2⟩;go_simp
     try simp only[Act.put,qzF,qzG,qzH]
     refine tj 9 (⟨some 44,.load 3 (.tmp 43),3,_,_,none⟩) (.int .i64 tt) (hS0) ?_ ?_
     ·rintro w⟨q0,q1,q2⟩;go_simp
     try simp only[Act.put,qzF,qzG,qzH]
     refine tj 10 (⟨some 45,.indexAddr 47 (.tmp 35) (.tmp 39),0,_,_,none⟩) (.pointer (some ⟨g,o+p*5,none⟩)) (hS0) ?_ ?_
     ·rintro w⟨q0,q1,q2⟩;go_simp
     try simp only[Act.put,qzF,qzG,qzH]
     refine tj 11 (⟨some 46,.fieldAddr 57 (.tmp 45) 1,0,_,_,none⟩) (.pointer (some ⟨g,o+p*5+1,none⟩)) (hS0) ?_ ?_
     ·rintro w⟨q0,q1,q2⟩;go_simp
     try simp only[Act.put,qzF,qzG,qzH]
     refine xab (rs:=[12]) (by kernel_rfl) (by simp) ?_
     intro i hi;simp only[List.mem_cons,List.not_mem_nil,or_false] at hi;subst hi;refine xaN (o:=⟨none,.store 3 (.tmp 46) (.tmp 44),0,_,_,none⟩) rfl (fun K' hK=>?_)
     go_simp;refine hK _ _ (fun h=>absurd h (by decide)) ?_
     clear hK K'
     try simp only[Act.put,qzF,qzG,qzH]
     refine xaz (by kernel_rfl) ?_ _
     try simp only[Act.put,qzF,qzG,qzH]
     go_wp2
     go_roundg (plain.length-(j+1))
     case measure=>omega
     case rel=>exact hfin.out
   ·have HLD:Hid (xeh begins x=none):=by
     show _=_
     unfold xeh
     by_cases h1:(x.op=15\/x.op=16)/\0<=x.a
     ·rw[if_pos h1,List.getElem?_eq_none (by omega)]
     ·rw[if_neg h1]
    have hfin:=xcr (HNX.out HLD.out)
    by_cases h15:x.op=15
    ·have hd15:(x.op == 15)=true:=by simpa using h15
     by_cases ha0:0<=x.a
     ·have hlt2:¬ (x.a<(begins.length:Int)):=fun h=>hjp ⟨Or.inl h15,ha0,h⟩
      clear h15 hjp HNX;go_wp2
      go_roundg (plain.length-(j+1))
      case measure=>omega
      case rel=>exact hfin.out
     ·clear h15 hjp HNX;go_wp2
      go_roundg (plain.length-(j+1))
      case measure=>omega
      case rel=>exact hfin.out
    ·have hd15:(x.op == 15)=false:=by simpa using h15
     by_cases h16:x.op=16
     ·have hd16:(x.op == 16)=true:=by simpa using h16
      by_cases ha0:0<=x.a
      ·have hlt2:¬ (x.a<(begins.length:Int)):=fun h=>hjp ⟨Or.inr h16,ha0,h⟩
       clear h15 h16 hjp HNX;go_wp2
       go_roundg (plain.length-(j+1))
       case measure=>omega
       case rel=>exact hfin.out
      ·clear h15 h16 hjp HNX;go_wp2
       go_roundg (plain.length-(j+1))
       case measure=>omega
       case rel=>exact hfin.out
     ·have hd16:(x.op == 16)=false:=by simpa using h16
      clear h15 h16 hjp HNX;go_wp2
      go_roundg (plain.length-(j+1))
      case measure=>omega
      case rel=>exact hfin.out
  ·obtain rfl:j=plain.length:=by omega
   have HF:=xcr (And.intro hO (And.intro hb hblk));clear hO hb hblk;go_wp2
   exact bodyPost_end (v:=.tuple #[]) (by simp[results,Tryz.results46,go_sem]) rfl ⟨rfl,HF.out.1,HF.out.2.1,HF.out.2.2⟩
theorem xh2:∀ (ps:List Int) (m:Int),(∀ p∈ps,0<=p)->0<=m->xdh m ps=decide (ps.sum<=m)
 | [],m,_,hm=>by simp[xdh,hm]
 | p :: r,m,h,hm=>by
  have hp:=h p (by simp)
  have hr:∀ q∈r,0<=q:=fun q hq=>h q (by simp[hq])
  have hs:∀ l:List Int,(∀ q∈l,0<=q)->0<=l.sum:=by
   intro l
   induction l with
   | nil=>intro _;simp
   | cons a l ih=>intro hl;have:=ih fun q hq=>hl q (by simp[hq]);have:=hl a (by simp);simp;omega
  have h0:=hs r hr;unfold xdh
  by_cases hc:m<p
  ·rw[if_pos (Or.inr hc)];have:¬ (p :: r).sum<=m:=by simp;omega
   simp only[this,decide_false]
  ·rw[if_neg (by omega),xh2 r (m-p) hr (by omega)]
   have:(r.sum<=m-p) ↔ ((p :: r).sum<=m):=by simp;omega
   simp only[this]
theorem xif (w:World)(ps:List Int)(t:TypeId)(hl:ps.length<=1000):xc5 (fun _=>True) (w.alloc (.cells (ps.map (Value.int .i64)).toArray t)) (.slice (some ⟨w.heap.size,0,none⟩) ps.length ps.length) ps:=by
 refine⟨_,_,rfl,qzC _,by unfold maxLen;omega,by omega,fun i x hx=>⟨w.heap.size,0,rfl,trivial,?_⟩⟩
 show World.cell? _ ⟨w.heap.size,0+i*1+0,none⟩=_
 rw[xaa _ _ _ _ rfl]
 simp[hx]
theorem xjD (f:Fst)(a:Option Addr)(n cap:Nat)(leaf:QM)(ka:Option Addr)(kc:Nat)(w:World)(ha:0<=leaf.args/\leaf.args<=4)(ht:0<=leaf.temps/\leaf.temps<=6)(hs:0<=f.temps/\f.temps<=100)(hn:n<=300)(hl60:leaf.code.length<=60) :
  Calls Tryz.prog 45 #[FsV f (.slice a n cap),MV leaf (.slice ka leaf.code.length kc)] w fun e w'=>e=.returned (PlV f.temps (f.temps+1) (f.temps+1+leaf.args) (xbw leaf n) (xbw leaf n+leaf.code.length))/\Below w.heap.size w w':=by
 have h1:IntKind.i64.wrap (f.temps+1)=f.temps+1:=xat (by omega) (by omega)
 have h2:IntKind.i64.wrap (f.temps+1+leaf.args)=f.temps+1+leaf.args:=xat (by omega) (by omega)
 have h3:IntKind.i64.wrap ((n:Int)+3)=(n:Int)+3:=xat (by omega) (by omega)
 have h4:IntKind.i64.wrap ((n:Int)+3+leaf.args)=(n:Int)+3+leaf.args:=xat (by omega) (by omega)
 have h5:IntKind.i64.wrap (2*leaf.temps)=2*leaf.temps:=xat (by omega) (by omega)
 have h6:IntKind.i64.wrap ((n:Int)+3+leaf.args+2*leaf.temps)=(n:Int)+3+leaf.args+2*leaf.temps:=xat (by omega) (by omega)
 have h7:IntKind.i64.wrap ((n:Int)+3+leaf.args+2*leaf.temps+(leaf.code.length:Int))=(n:Int)+3+leaf.args+2*leaf.temps+(leaf.code.length:Int):=xat (by omega) (by omega)
 go_enter Tryz.func45,Tryz.ntmps45;go_wp2;refine qzK (v:=PlV f.temps (f.temps+1) (f.temps+1+leaf.args) (xbw leaf n) (xbw leaf n+leaf.code.length)) ?_ rfl ⟨rfl,?_⟩
 ·simp[results,Tryz.results45,go_sem,xbw]
 ·exact xfL _ _ _ _
theorem xqd (n:Nat)(temps:Int)(leaf:QM)(left:Int)(ha:0<=leaf.args/\leaf.args<=4)(ht:0<=leaf.temps/\leaf.temps<=6)(hs:0<=temps)(hl:0<=left):xgy n temps leaf left=(xdh 240 [(n:Int),3,leaf.args,leaf.temps,leaf.temps,(leaf.code.length:Int),left] && xdh 40 [temps,1,leaf.args,leaf.temps]):=by
 rw[xh2 _ _ (by intro p hp;simp at hp;rcases hp with rfl | rfl | rfl | rfl | rfl | rfl<;>omega) (by omega),xh2 _ _ (by intro p hp;simp at hp;rcases hp with rfl | rfl | rfl | rfl<;>omega) (by omega)]
 unfold xgy;rw[Bool.eq_iff_iff]
 simp
 omega
theorem xji (f:Fst)(a:Option Addr)(n cap:Nat)(leaf:QM)(ka:Option Addr)(kc:Nat)(left:Int)(w:World)(ha:0<=leaf.args/\leaf.args<=4)(ht:0<=leaf.temps/\leaf.temps<=6)(hs:0<=f.temps)(hl:0<=left) :
  Calls Tryz.prog 42 #[FsV f (.slice a n cap),MV leaf (.slice ka leaf.code.length kc),.int .i64 left] w fun e w'=>e=.returned (.bool (xgy n f.temps leaf left))/\Below w.heap.size w w':=by
 have HRM:=xcr (xqd n f.temps leaf left ha ht hs hl);have hb2:=xbP w (.cells #[.int .i64 f.cls,.string f.name,.int .i64 f.ez,.int .i64 f.temps,.slice a n cap] 49) (.cells #[.string leaf.name,.int .i64 leaf.args,.int .i64 leaf.temps,.int .i64 leaf.prim,.slice ka leaf.code.length kc] 59);have c0:((w.alloc (.cells #[.int .i64 f.cls,.string f.name,.int .i64 f.ez,.int .i64 f.temps,.slice a n cap] 49)).alloc (.cells #[.string leaf.name,.int .i64 leaf.args,.int .i64 leaf.temps,.int .i64 leaf.prim,.slice ka leaf.code.length kc] 59)).cell? ⟨w.heap.size,4,none⟩=some (.slice a n cap):=qzA (xak _ _) (xaa w #[.int .i64 f.cls,.string f.name,.int .i64 f.ez,.int .i64 f.temps,.slice a n cap] 49 _ rfl 4)
 have c3:((w.alloc (.cells #[.int .i64 f.cls,.string f.name,.int .i64 f.ez,.int .i64 f.temps,.slice a n cap] 49)).alloc (.cells #[.string leaf.name,.int .i64 leaf.args,.int .i64 leaf.temps,.int .i64 leaf.prim,.slice ka leaf.code.length kc] 59)).cell? ⟨w.heap.size,3,none⟩=some (.int .i64 f.temps):=qzA (xak _ _) (xaa w #[.int .i64 f.cls,.string f.name,.int .i64 f.ez,.int .i64 f.temps,.slice a n cap] 49 _ rfl 3);have l1:((w.alloc (.cells #[.int .i64 f.cls,.string f.name,.int .i64 f.ez,.int .i64 f.temps,.slice a n cap] 49)).alloc (.cells #[.string leaf.name,.int .i64 leaf.args,.int .i64 leaf.temps,.int .i64 leaf.prim,.slice ka leaf.code.length kc] 59)).cell? ⟨w.heap.size+1,1,none⟩=some (.int .i64 leaf.args):=xaa _ _ _ _ (by simp) 1
 have l2:((w.alloc (.cells #[.int .i64 f.cls,.string f.name,.int .i64 f.ez,.int .i64 f.temps,.slice a n cap] 49)).alloc (.cells #[.string leaf.name,.int .i64 leaf.args,.int .i64 leaf.temps,.int .i64 leaf.prim,.slice ka leaf.code.length kc] 59)).cell? ⟨w.heap.size+1,2,none⟩=some (.int .i64 leaf.temps):=xaa _ _ _ _ (by simp) 2
 have l4:((w.alloc (.cells #[.int .i64 f.cls,.string f.name,.int .i64 f.ez,.int .i64 f.temps,.slice a n cap] 49)).alloc (.cells #[.string leaf.name,.int .i64 leaf.args,.int .i64 leaf.temps,.int .i64 leaf.prim,.slice ka leaf.code.length kc] 59)).cell? ⟨w.heap.size+1,4,none⟩=some (.slice ka leaf.code.length kc):=xaa _ _ _ _ (by simp) 4
 go_enter Tryz.func42,Tryz.ntmps42
 go_upto_region 1 with (fail)
 generalize ((w.alloc (.cells #[.int .i64 f.cls,.string f.name,.int .i64 f.ez,.int .i64 f.temps,.slice a n cap] 49)).alloc (.cells #[.string leaf.name,.int .i64 leaf.args,.int .i64 leaf.temps,.int .i64 leaf.prim,.slice ka leaf.code.length kc] 59))=W at *;go_wp2_with fail;refine (xks [(n:Int),3,leaf.args,leaf.temps,leaf.temps,(leaf.code.length:Int),left] _ 240 _ (by omega) (xif W [(n:Int),3,leaf.args,leaf.temps,leaf.temps,(leaf.code.length:Int),left] 3 (by simp))).mono ?_
 rintro e w1 ⟨rfl,rfl⟩;have hb1:=xak W (.cells #[.int .i64 (n:Int),.int .i64 3,.int .i64 leaf.args,.int .i64 leaf.temps,.int .i64 leaf.temps,.int .i64 (leaf.code.length:Int),.int .i64 left] 3)
 by_cases h1:xdh 240 [(n:Int),3,leaf.args,leaf.temps,leaf.temps,(leaf.code.length:Int),left]=true
 ·have HV:Hid (xgy n f.temps leaf left=xdh 40 [f.temps,1,leaf.args,leaf.temps]):=by show _=_;rw[HRM.out,h1];rfl
  rw[h1];have d3:=qzA hb1 c3;have e1:=qzA hb1 l1;have e2:=qzA hb1 l2;have HB:=xcr (xaf hb2 hb1);clear h1 c0 c3 l1 l2 l4 hb2;generalize hW1:W.alloc _=W1 at *;go_wp2_with fail;refine (xks [f.temps,1,leaf.args,leaf.temps] _ 40 _ (by omega) (xif W1 [f.temps,1,leaf.args,leaf.temps] 3 (by simp))).mono ?_
  rintro e w2 ⟨rfl,rfl⟩;have HB2:=xcr (xaf HB.out (xak W1 (.cells ([f.temps,1,leaf.args,leaf.temps].map (Value.int .i64)).toArray 3)));go_wp2
  go_ret
  exact⟨xby HV.out.symm,HB2.out⟩
 ·have h1':xdh 240 [(n:Int),3,leaf.args,leaf.temps,leaf.temps,(leaf.code.length:Int),left]=false:=by simpa using h1
  have HV:Hid (xgy n f.temps leaf left=false):=by show _=_;rw[HRM.out,h1'];rfl
  rw[h1'];have HB:=xcr (xaf hb2 hb1);clear h1 h1';go_wp2
  go_ret
  exact⟨xby HV.out.symm,HB.out⟩
def LfPost (w:World)(st:Option QM)(e:Ending)(w':World):Prop:=
 ∃ m a c,e=.returned (.tuple #[MV m (.slice a m.code.length c),.bool st.isSome])/\(∀ m',st=some m'->m=m')/\xaR (fun b=>b<w.heap.size) w' (.slice a m.code.length c) m.code/\Below w.heap.size w w'
theorem LfPost.drew {w w':World}{st:Option QM}{e:Ending}(h:LfPost w st e w'):LfPost w st e w'.drew:=by
 obtain⟨m,a,c,h1,h2,h3,h4⟩:=h
 exact⟨m,a,c,h1,h2,h3.later xa2 (qzL _ _).drew,h4.drew⟩
theorem xmR {w U:World}{st:Option QM}{m:QM}{a:Option Addr}{c:Nat}{b:Bool}(hst:st=if b then some m else none)(hb:Below w.heap.size w U)(hco:xaR (fun b=>b<w.heap.size) U (.slice a m.code.length c) m.code):LfPost w st (.returned (.tuple #[MV m (.slice a m.code.length c),.bool b])) (xk4 U (w.heap.size+2) (.string m.name) (.int .i64 m.args) (.int .i64 m.temps) (.int .i64 m.prim) (.slice a m.code.length c)):=by
 refine⟨m,a,c,?_,?_,hco.keep xa2 (Keeps.of_block fun b hb _=>xr2 (by omega)) fun _ h=>h,xrN hb (by omega)⟩
 ·cases b<;>simp[hst]
 ·intro m' h;rw[hst] at h
  cases b
  ·cases h
  ·cases h;rfl
abbrev zM0:QM:=⟨⟨#[]⟩,0,0,0,[]⟩
theorem xpy {w U:World}(hb:Below w.heap.size w U):LfPost w none (.returned (.tuple #[MV zM0 (.slice none 0 0),.bool false])) (xk4 U (w.heap.size+2) (.string ⟨#[]⟩) (.int .i64 0) (.int .i64 0) (.int .i64 0) (.slice none 0 0)):=
 xmR (m:=zM0) (a:=none) (c:=0) (b:=false) rfl hb xbn
structure LfB (w:World)(cv hv:Value)(ep:Int)(x:QI)(w':World):Prop where
 w0:w'.cell? ⟨w.heap.size,0,none⟩=some cv
 w1:w'.cell? ⟨w.heap.size,1,none⟩=some hv
 w2:w'.cell? ⟨w.heap.size,2,none⟩=some (.int .i64 ep)
 x0:w'.cell? ⟨w.heap.size+1,0,none⟩=some (.int .i64 x.op)
 x1:w'.cell? ⟨w.heap.size+1,1,none⟩=some (.int .i64 x.a)
 x4:w'.cell? ⟨w.heap.size+1,4,none⟩=some (.string x.name)
 z0:w'.cell? ⟨w.heap.size+2,0,none⟩=some (.string ⟨#[]⟩)
 z1:w'.cell? ⟨w.heap.size+2,1,none⟩=some (.int .i64 0)
 z2:w'.cell? ⟨w.heap.size+2,2,none⟩=some (.int .i64 0)
 z3:w'.cell? ⟨w.heap.size+2,3,none⟩=some (.int .i64 0)
 z4:w'.cell? ⟨w.heap.size+2,4,none⟩=some (.slice none 0 0)
 zf:∀ o,w'.frozen? ⟨w.heap.size+2,o,none⟩=false
 sz:w.heap.size+3<=w'.heap.size
theorem LfB.later {w:World}{cv hv:Value}{ep:Int}{x:QI}{w' w'':World}(h:LfB w cv hv ep x w')(hb:Below w'.heap.size w' w''):LfB w cv hv ep x w'':=
 ⟨qzA hb h.w0,qzA hb h.w1,qzA hb h.w2,qzA hb h.x0,qzA hb h.x1,qzA hb h.x4,qzA hb h.z0,qzA hb h.z1,qzA hb h.z2,qzA hb h.z3,qzA hb h.z4,fun o=>(hb.frozen (p:=⟨w.heap.size+2,o,none⟩) (by have:=h.sz;simp only;omega)).trans (h.zf o),qzD h.sz hb.size⟩
theorem xqH (w:World)(cv hv:Value)(ep:Int)(x:QI):LfB w cv hv ep x (((w.alloc (.cells #[cv,hv,.int .i64 ep] 25)).alloc (.cells #[.int .i64 x.op,.int .i64 x.a,.int .i64 x.b,.int .i64 x.c,.string x.name] 57)).alloc (.cells #[.string ⟨#[]⟩,.int .i64 0,.int .i64 0,.int .i64 0,.slice none 0 0] 59)):=by
 have e1:(w.alloc (.cells #[cv,hv,.int .i64 ep] 25)).heap.size=w.heap.size+1:=by simp
 have e2:((w.alloc (.cells #[cv,hv,.int .i64 ep] 25)).alloc (.cells #[.int .i64 x.op,.int .i64 x.a,.int .i64 x.b,.int .i64 x.c,.string x.name] 57)).heap.size=w.heap.size+2:=by simp
 exact⟨qzA (xbP _ _ _) (xaa w #[cv,hv,.int .i64 ep] 25 _ rfl 0),qzA (xbP _ _ _) (xaa w #[cv,hv,.int .i64 ep] 25 _ rfl 1),qzA (xbP _ _ _) (xaa w #[cv,hv,.int .i64 ep] 25 _ rfl 2),qzA (xak _ _) (xaa _ _ _ _ e1 0),qzA (xak _ _) (xaa _ _ _ _ e1 1),qzA (xak _ _) (xaa _ _ _ _ e1 4),xaa _ _ _ _ e2 0,xaa _ _ _ _ e2 1,xaa _ _ _ _ e2 2,xaa _ _ _ _ e2 3,xaa _ _ _ _ e2 4,xbT (cur:=#[.string ⟨#[]⟩,.int .i64 0,.int .i64 0,.int .i64 0,.slice none 0 0]) (t:=59) (by rw[← e2];exact qzJ _ _),by simp⟩
theorem xlk {P Q:Nat->Prop}(X:QW)(sites:List Int)(at':Nat)(x:QI)(cv hv sv:Value)(w:World)(hC:xai P w cv X.cz)(hH:xaD P w hv X.heap)(hS:xc5 Q w sv sites) :
  Calls Tryz.prog 41 #[WV cv hv X.ez,sv,.int .i64 (at':Int),IV x] w fun e w'=>LfPost w (xa3 X.cz sites at' x) e w':=by
 obtain⟨ac,cc,rfl,-,hcc,-,hrowC⟩:=id (xd6 hC);obtain⟨ah,ch,rfl,-⟩:=id hH;obtain⟨asv,cs,rfl,hls,hcs,-,hrow⟩:=id hS;unfold maxLen at hcs hcc;have hB0:=xqH w (.slice ac X.cz.length cc) (.slice ah X.heap.length ch) X.ez x;have hbW:=xfL w (.cells #[.slice ac X.cz.length cc,.slice ah X.heap.length ch,.int .i64 X.ez] 25) (.cells #[.int .i64 x.op,.int .i64 x.a,.int .i64 x.b,.int .i64 x.c,.string x.name] 57) (.cells #[.string ⟨#[]⟩,.int .i64 0,.int .i64 0,.int .i64 0,.slice none 0 0] 59);go_enter Tryz.func41,Tryz.ntmps41
 go_upto_region 1 with (fail)
 simp only[Nat.add_assoc,Nat.reduceAdd];generalize (((w.alloc (.cells #[.slice ac X.cz.length cc,.slice ah X.heap.length ch,.int .i64 X.ez] 25)).alloc (.cells #[.int .i64 x.op,.int .i64 x.a,.int .i64 x.b,.int .i64 x.c,.string x.name] 57)).alloc (.cells #[.string ⟨#[]⟩,.int .i64 0,.int .i64 0,.int .i64 0,.slice none 0 0] 59))=W at *;have HN:Hid (∀ U,Below w.heap.size w U->xa3 X.cz sites at' x=none->LfPost w (xa3 X.cz sites at' x) (.returned (.tuple #[MV zM0 (.slice none 0 0),.bool false])) (xk4 U (w.heap.size+2) (.string ⟨#[]⟩) (.int .i64 0) (.int .i64 0) (.int .i64 0) (.slice none 0 0))):=fun U hb h=>by rw[h];exact xpy hb
 obtain⟨k0,k1,k2,x0,x1,x4,z0,z1,z2,z3,z4,zf,sz⟩:=id hB0
 by_cases hop:x.op=14
 ·have hd:(x.op == 14)=true:=by simpa using hop
  have hdn:(x.op != 14)=false:=by simpa using hop
  have HOP:=xcr hop;rw[hop] at x0;clear hop hd hdn
  by_cases hlt:at'<sites.length
  ·obtain⟨k,hk⟩:∃ k,sites[at']?=some k:=⟨sites[at'],by simp[hlt]⟩
   have HK:Hid (sites.getD at' (-1)=k):=by show _=_;rw[List.getD_eq_getElem?_getD,hk];rfl
   obtain⟨bs,os,rfl,-,y0⟩:=hrow at' k hk;replace y0:w.cell? ⟨bs,os+at',none⟩=some (.int .i64 k):=by simpa [xpr] using y0
   have y1:=qzA hbW y0;have hj1:(at':Int)<(sites.length:Int):=by omega
   have hj0:(0:Int)<=(at':Int):=by omega
   have hge:¬ ((sites.length:Int)<=(at':Int)):=by omega
   clear hrow hk
   by_cases hk0:k<0
   ·have hkd:decide (k<0)=true:=by simpa using hk0
    have HZ:=xcr (HN.out W hbW (by unfold xa3;rw[if_neg (by rw[HK.out];omega)]))
    clear hk0;go_wp2;refine qzK (v:=.tuple #[MV zM0 (.slice none 0 0),.bool false]) ?_ rfl HZ.out
    simp[results,Tryz.results41,go_sem,z0,z1,z2,z3,z4]
   ·have hkd:decide (k<0)=false:=by simpa using hk0
    have HK0:=xcr hk0
    have hSl:∀ w',Below W.heap.size W w'->w'.cell? ⟨w.heap.size,0,none⟩=some (.slice ac X.cz.length cc)/\w'.cell? ⟨w.heap.size,1,none⟩=some (.slice ah X.heap.length ch)/\w'.cell? ⟨w.heap.size,2,none⟩=some (.int .i64 X.ez)/\w'.cell? ⟨bs,os+at',none⟩=some (.int .i64 k)/\w'.cell? ⟨w.heap.size+1,4,none⟩=some (.string x.name):=fun w' hb=>by
     have h:=hB0.later hb
     exact⟨h.w0,h.w1,h.w2,qzA hb y1,h.x4⟩
    have hS0:=hSl _ (qzL _ W).drew;clear hk0
    go_upto_region 3 with (fail)
    refine xav (S:=fun w'=>w'.cell? ⟨w.heap.size,0,none⟩=some (.slice ac X.cz.length cc)/\w'.cell? ⟨w.heap.size,1,none⟩=some (.slice ah X.heap.length ch)/\w'.cell? ⟨w.heap.size,2,none⟩=some (.int .i64 X.ez)/\w'.cell? ⟨bs,os+at',none⟩=some (.int .i64 k)/\w'.cell? ⟨w.heap.size+1,4,none⟩=some (.string x.name)) [] (by kernel_rfl) ?_
    refine tj 0 (⟨some 31,.load 25 (.tmp 4),25,_,_,none⟩) (WV (.slice ac X.cz.length cc) (.slice ah X.heap.length ch) X.ez) (hS0) ?_ ?_
    ·rintro w⟨q0,q1,q2,q3,q4⟩;go_simp
    try simp only[Act.put,qzF,qzG,qzH]
    refine tj 1 (⟨some 32,.move (.tmp 1),87,_,_,none⟩) (.slice (some ⟨bs,os,none⟩) sites.length cs) (hS0) ?_ ?_
    ·rintro w⟨q0,q1,q2,q3,q4⟩;go_simp
    try simp only[Act.put,qzF,qzG,qzH]
    refine tj 2 (⟨some 33,.move (.tmp 2),3,_,_,none⟩) (.int .i64 (at':Int)) (hS0) ?_ ?_
    ·rintro w⟨q0,q1,q2,q3,q4⟩;go_simp
    try simp only[Act.put,qzF,qzG,qzH]
    refine tj 3 (⟨some 34,.indexAddr 87 (.tmp 32) (.tmp 33),0,_,_,none⟩) (.pointer (some ⟨bs,os+at',none⟩)) (hS0) ?_ ?_
    ·rintro w⟨q0,q1,q2,q3,q4⟩;go_simp
    try simp only[Act.put,qzF,qzG,qzH]
    refine tj 4 (⟨some 35,.load 3 (.tmp 34),3,_,_,none⟩) (.int .i64 k) (hS0) ?_ ?_
    ·rintro w⟨q0,q1,q2,q3,q4⟩;go_simp
    try simp only[Act.put,qzF,qzG,qzH]
    refine tj 5 (⟨some 36,.fieldAddr 57 (.tmp 7) 4,0,_,_,none⟩) (.pointer (some ⟨w.heap.size+1,4,none⟩)) (hS0) ?_ ?_
    ·rintro w⟨q0,q1,q2,q3,q4⟩;go_simp
    try simp only[Act.put,qzF,qzG,qzH]
    refine tj 6 (⟨some 37,.load 9 (.tmp 36),9,_,_,none⟩) (.string x.name) (hS0) ?_ ?_
    ·rintro w⟨q0,q1,q2,q3,q4⟩;go_simp
    try simp only[Act.put,qzF,qzG,qzH]
    refine xab (rs:=[7]) (by kernel_rfl) (by simp) ?_
    intro i hi;simp only[List.mem_cons,List.not_mem_nil,or_false] at hi;subst hi;refine xaN (o:=⟨some 38,.call ⟨.value (.func 38),#[.tmp 31,.tmp 35,.tmp 37],#[25,3,9]⟩,93,_,_,none⟩) rfl (fun K' hK=>?_)
    refine xaZ rfl 38 (.func 38) #[.tmp 31,.tmp 35,.tmp 37] _ rfl #[] rfl #[WV (.slice ac X.cz.length cc) (.slice ah X.heap.length ch) X.ez,.int .i64 k,.string x.name] (by simp[Act.eval,Act.put]) (cf45 _ _) ?_
    refine (show Calls Tryz.prog 38 #[WV (.slice ac X.cz.length cc) (.slice ah X.heap.length ch) X.ez,.int .i64 k,.string x.name] W.drew _ from (xfE X k x.name _ _ W.drew (hC.later xaA hbW.drew) (hH.later xaE hbW.drew)).mono ?_)
    rintro e w1 ⟨rfl,hb1⟩;refine⟨_,rfl,?_⟩;have hbW1:Below W.heap.size W w1:=xaf (qzL _ W).drew hb1;refine hK _ _ (fun _=>?_) ?_
    ·exact hSl _ hbW1
    clear hK K'
    try simp only[Act.put,qzF,qzG,qzH]
    obtain⟨fc,fj,hf⟩:∃ fc fj,xaB X.cz k x.name=(fc,fj):=⟨_,_,rfl⟩;simp only[hf];refine tj 8 (⟨some 30,.move (.tmp 38),93,_,_,none⟩) (.tuple #[.int .i64 fc,.int .i64 fj]) (hSl _ hbW1) ?_ ?_
    ·rintro w⟨q0,q1,q2,q3,q4⟩;go_simp
    try simp only[Act.put,qzF,qzG,qzH]
    refine tj 9 (⟨some 39,.extract (.tmp 30) 0,3,_,_,none⟩) (.int .i64 fc) (hSl _ hbW1) ?_ ?_
    ·rintro w⟨q0,q1,q2,q3,q4⟩;go_simp
    try simp only[Act.put,qzF,qzG,qzH]
    refine tj 10 (⟨some 40,.extract (.tmp 30) 1,3,_,_,none⟩) (.int .i64 fj) (hSl _ hbW1) ?_ ?_
    ·rintro w⟨q0,q1,q2,q3,q4⟩;go_simp
    try simp only[Act.put,qzF,qzG,qzH]
    refine tj 11 (⟨some 10,.assign (.tmp 39),3,_,_,none⟩) (.int .i64 fc) (hSl _ hbW1) ?_ ?_
    ·rintro w⟨q0,q1,q2,q3,q4⟩;go_simp
    try simp only[Act.put,qzF,qzG,qzH]
    refine tj 12 (⟨some 11,.assign (.tmp 40),3,_,_,none⟩) (.int .i64 fj) (hSl _ hbW1) ?_ ?_
    ·rintro w⟨q0,q1,q2,q3,q4⟩;go_simp
    try simp only[Act.put,qzF,qzG,qzH]
    refine xaz (by kernel_rfl) ?_ _
    try simp only[Act.put,qzF,qzG,qzH]
    have hb1w:Below w.heap.size w w1:=xaf hbW hbW1;replace hB0:=hB0.later hbW1;clear k0 k1 k2 x0 x1 x4 z0 z1 z2 z3 z4 zf sz hSl hS0 hb1 y0 y1;obtain⟨k0,k1,k2,x0,x1,x4,z0,z1,z2,z3,z4,zf,sz⟩:=id hB0;have HSI:Hid (xa3 X.cz sites at' x=match xd5 X.cz k x.name with | none=>none | some m=>if m.args=x.a/\xdj m=true then some m else none):=by show _=_;unfold xa3;rw[HK.out,if_pos ⟨HOP.out,by have:=HK0.out;omega⟩];cases xd5 X.cz k x.name<;>rfl
    rcases xfd X.cz k x.name with ⟨h1,h2⟩ | ⟨qc,xc,tc,m,he,hxc,hm⟩
    ·rw[hf] at h1 h2;simp only at h1 h2;have hfd:decide (fc<0)=true:=by simpa using h1
     have HZ:=xcr (HN.out w1 hb1w (by rw[HSI.out];unfold xd5;rw[hf,if_pos h2]))
     clear h1 h2;go_wp2;refine qzK (v:=.tuple #[MV zM0 (.slice none 0 0),.bool false]) ?_ rfl HZ.out
     simp[results,Tryz.results41,go_sem,z0,z1,z2,z3,z4]
    ·have HSM:Hid (xa3 X.cz sites at' x=if m.args=x.a/\xdj m=true then some m else none):=by
      show _=_
      rw[HSI.out];have:xd5 X.cz k x.name=some m:=by unfold xd5;rw[he];simp[hxc,hm]
      rw[this]
     rw[hf] at he;obtain⟨rfl,rfl⟩:fc=(qc:Int)/\fj=(tc:Int):=by cases he;exact⟨rfl,rfl⟩
     obtain⟨b1,o1,rfl,-,-,-,-,-,mv,u3,hms⟩:=hrowC qc xc hxc;obtain⟨am,cm,rfl,hlm,hcm,-,hrm⟩:=hms;obtain⟨b2,o2,rfl,-,v0,v1,v2,v3,-,kv,v4,hco0⟩:=hrm tc m hm;obtain⟨ak,ck,rfl,-⟩:=id hco0;simp only[Nat.add_zero] at v0;unfold maxLen at hcm;have hq:=xae hxc;have ht:=xae hm;have hq1:(qc:Int)<(X.cz.length:Int):=by omega
     have hq0:(0:Int)<=(qc:Int):=by omega
     have ht1:(tc:Int)<(xc.mz.length:Int):=by omega
     have ht0:(0:Int)<=(tc:Int):=by omega
     have hqn:decide ((qc:Int)<0)=false:=by simp
     replace u3:=qzA hb1w u3;replace v0:=qzA hb1w v0;replace v1:=qzA hb1w v1;replace v2:=qzA hb1w v2;replace v3:=qzA hb1w v3;replace v4:=qzA hb1w v4;have hbV1:=xak w1 (.cells #[.string m.name,.int .i64 m.args,.int .i64 m.temps,.int .i64 m.prim,.slice ak m.code.length ck] 59);have hco:=(hco0.later xa2 hb1w).later xa2 hbV1;have hbV:=xaf hb1w hbV1;have hBV:=hB0.later hbV1;have hS12:(w1.alloc (.cells #[.string m.name,.int .i64 m.args,.int .i64 m.temps,.int .i64 m.prim,.slice ak m.code.length ck] 59)).heap[w1.heap.size]?=some (.cells #[.string m.name,.int .i64 m.args,.int .i64 m.temps,.int .i64 m.prim,.slice ak m.code.length ck] 59 (0,0)):=qzJ _ _
     have hszz:=hB0.sz;clear hrowC hrm hxc hm he hf
     go_upto_region 7 with (fail)
     generalize (w1.alloc (.cells #[.string m.name,.int .i64 m.args,.int .i64 m.temps,.int .i64 m.prim,.slice ak m.code.length ck] 59))=V at *;generalize hb12:w1.heap.size=b12 at *
     have hSl:∀ w',Below V.heap.size V w'->w'.cell? ⟨b12,0,none⟩=some (.string m.name)/\w'.cell? ⟨b12,1,none⟩=some (.int .i64 m.args)/\w'.cell? ⟨b12,2,none⟩=some (.int .i64 m.temps)/\w'.cell? ⟨b12,3,none⟩=some (.int .i64 m.prim)/\w'.cell? ⟨b12,4,none⟩=some (.slice ak m.code.length ck)/\w'.cell? ⟨w.heap.size+1,1,none⟩=some (.int .i64 x.a):=fun w' hb=>by
      have h:=xad hS12 hb
      exact⟨by rw[qzB h];rfl,by rw[qzB h];rfl,by rw[qzB h];rfl,by rw[qzB h];rfl,by rw[qzB h];rfl,(hBV.later hb).x1⟩
     have hZ:∀ w',Below V.heap.size V w'->w'.cell? ⟨w.heap.size+2,0,none⟩=some (.string ⟨#[]⟩)/\w'.cell? ⟨w.heap.size+2,1,none⟩=some (.int .i64 0)/\w'.cell? ⟨w.heap.size+2,2,none⟩=some (.int .i64 0)/\w'.cell? ⟨w.heap.size+2,3,none⟩=some (.int .i64 0)/\w'.cell? ⟨w.heap.size+2,4,none⟩=some (.slice none 0 0)/\∀ o,w'.frozen? ⟨w.heap.size+2,o,none⟩=false:=fun w' hb=>by
      have h:=hBV.later hb
      exact⟨h.z0,h.z1,h.z2,h.z3,h.z4,h.zf⟩
     have hS7:=hSl _ (qzL _ V).drew;clear k0 k1 k2 x0 x1 x4 z0 z1 z2 z3 z4 zf sz u3 v0 v1 v2 v3 v4
     by_cases hea:m.args=x.a
     ·have heb:(m.args == x.a)=true:=by simpa using hea
      have HST:Hid (xa3 X.cz sites at' x=if xdj m then some m else none):=by show _=_;rw[HSM.out];simp[hea]
      clear hea;refine xav (S:=fun w'=>w'.cell? ⟨b12,0,none⟩=some (.string m.name)/\w'.cell? ⟨b12,1,none⟩=some (.int .i64 m.args)/\w'.cell? ⟨b12,2,none⟩=some (.int .i64 m.temps)/\w'.cell? ⟨b12,3,none⟩=some (.int .i64 m.prim)/\w'.cell? ⟨b12,4,none⟩=some (.slice ak m.code.length ck)/\w'.cell? ⟨w.heap.size+1,1,none⟩=some (.int .i64 x.a)) [] (by kernel_rfl) ?_
      refine tj 0 (⟨some 53,.load 59 (.tmp 12),59,_,_,none⟩) (MV m (.slice ak m.code.length ck)) (hS7) ?_ ?_
      ·rintro w⟨q0,q1,q2,q3,q4,q5⟩;go_simp
      try simp only[Act.put,qzF,qzG,qzH]
      refine tj 1 (⟨some 54,.fieldAddr 59 (.tmp 12) 1,0,_,_,none⟩) (.pointer (some ⟨b12,1,none⟩)) (hS7) ?_ ?_
      ·rintro w⟨q0,q1,q2,q3,q4,q5⟩;go_simp
      try simp only[Act.put,qzF,qzG,qzH]
      refine tj 2 (⟨some 55,.load 3 (.tmp 54),3,_,_,none⟩) (.int .i64 m.args) (hS7) ?_ ?_
      ·rintro w⟨q0,q1,q2,q3,q4,q5⟩;go_simp
      try simp only[Act.put,qzF,qzG,qzH]
      refine tj 3 (⟨some 56,.fieldAddr 57 (.tmp 7) 1,0,_,_,none⟩) (.pointer (some ⟨w.heap.size+1,1,none⟩)) (hS7) ?_ ?_
      ·rintro w⟨q0,q1,q2,q3,q4,q5⟩;go_simp
      try simp only[Act.put,qzF,qzG,qzH]
      refine tj 4 (⟨some 57,.load 3 (.tmp 56),3,_,_,none⟩) (.int .i64 x.a) (hS7) ?_ ?_
      ·rintro w⟨q0,q1,q2,q3,q4,q5⟩;go_simp
      try simp only[Act.put,qzF,qzG,qzH]
      refine tj 5 (⟨some 58,.binOp .eql 3 (.tmp 55) (.tmp 57) 3,4,_,_,none⟩) (.bool true) (hS7) ?_ ?_
      ·rintro w⟨q0,q1,q2,q3,q4,q5⟩;go_simp
      try simp only[Act.put,qzF,qzG,qzH]
      refine tj 6 (⟨some 59,.move (.tmp 58),4,_,_,none⟩) (.bool true) (hS7) ?_ ?_
      ·rintro w⟨q0,q1,q2,q3,q4,q5⟩;go_simp
      try simp only[Act.put,qzF,qzG,qzH]
      refine tj 7 (⟨some 60,.load 59 (.tmp 12),59,_,_,some (6,true)⟩) (MV m (.slice ak m.code.length ck)) (hS7) ?_ ?_
      ·rintro w⟨q0,q1,q2,q3,q4,q5⟩;go_simp
      try simp only[Act.put,qzF,qzG,qzH]
      refine xab (rs:=[8]) (by kernel_rfl) (by simp) ?_
      intro i hi;simp only[List.mem_cons,List.not_mem_nil,or_false] at hi;subst hi;refine xaN (o:=⟨some 61,.call ⟨.value (.func 64),#[.tmp 60],#[59]⟩,4,_,_,some (6,true)⟩) rfl (fun K' hK=>?_)
      refine xk7 (by rfl) 64 (.func 64) #[.tmp 60] _ rfl #[] rfl #[MV m (.slice ak m.code.length ck)] (by simp[Act.eval,Act.put]) (cf46 _ _) ?_
      refine (show Calls Tryz.prog 64 #[MV m (.slice ak m.code.length ck)] V.drew _ from (xkA m _ V.drew (hco.later xa2 (qzL _ V).drew)).mono ?_)
      rintro e w5 ⟨rfl,hb5⟩;refine⟨_,rfl,?_⟩;have hbV5:Below V.heap.size V w5:=xaf (qzL _ V).drew hb5;obtain⟨r0,r1,r2,r3,r4,rf⟩:=hZ _ hbV5;obtain⟨z0,z1,z2,z3,z4,z5⟩:=hSl _ hbV5;refine hK _ _ (fun _=>?_) ?_
      ·exact hSl _ hbV5
      clear hK K'
      try simp only[Act.put,qzF,qzG,qzH]
      refine tj 9 (⟨some 62,.pick (.tmp 59) (.tmp 61) (.const (.bool false)),4,_,_,none⟩) (.bool (xdj m)) (hSl _ hbV5) ?_ ?_
      ·rintro w⟨q0,q1,q2,q3,q4,q5⟩;go_simp
      try simp only[Act.put,qzF,qzG,qzH]
      refine xab (rs:=[10]) (by kernel_rfl) (by simp) ?_
      intro i hi;simp only[List.mem_cons,List.not_mem_nil,or_false] at hi;subst hi;refine xaN (o:=⟨none,.store 59 (.tmp 8) (.tmp 53),0,_,_,none⟩) rfl (fun K' hK=>?_)
      go_simp;refine hK _ _ (fun _=>?_) ?_
      ·exact⟨xc2 z0 (by omega),xc2 z1 (by omega),xc2 z2 (by omega),xc2 z3 (by omega),xc2 z4 (by omega),xc2 z5 (by omega)⟩
      clear hK K'
      try simp only[Act.put,qzF,qzG,qzH]
      refine tj 11 (⟨some 9,.assign (.tmp 62),4,_,_,none⟩) (.bool (xdj m)) (⟨xc2 z0 (by omega),xc2 z1 (by omega),xc2 z2 (by omega),xc2 z3 (by omega),xc2 z4 (by omega),xc2 z5 (by omega)⟩) ?_ ?_
      ·rintro w⟨q0,q1,q2,q3,q4,q5⟩;go_simp
      try simp only[Act.put,qzF,qzG,qzH]
      refine xaz (by kernel_rfl) ?_ _
      try simp only[Act.put,qzF,qzG,qzH]
      have HQ:=xcr (xmR (U:=w5) (m:=m) (a:=ak) (c:=ck) HST.out (xaf hbV hbV5) (hco.later xa2 hbV5));go_wp2;refine qzK (v:=.tuple #[MV m (.slice ak m.code.length ck),.bool (xdj m)]) ?_ rfl HQ.out
      simp[results,Tryz.results41,go_sem,r0,r1,r2,r3,r4]
     ·have heb:(m.args == x.a)=false:=by simpa using hea
      have HST:Hid (xa3 X.cz sites at' x=if false then some m else none):=by show _=_;rw[HSM.out];simp[hea]
      clear hea;refine xav (S:=fun w'=>w'.cell? ⟨b12,0,none⟩=some (.string m.name)/\w'.cell? ⟨b12,1,none⟩=some (.int .i64 m.args)/\w'.cell? ⟨b12,2,none⟩=some (.int .i64 m.temps)/\w'.cell? ⟨b12,3,none⟩=some (.int .i64 m.prim)/\w'.cell? ⟨b12,4,none⟩=some (.slice ak m.code.length ck)/\w'.cell? ⟨w.heap.size+1,1,none⟩=some (.int .i64 x.a)) [] (by kernel_rfl) ?_
      refine tj 0 (⟨some 53,.load 59 (.tmp 12),59,_,_,none⟩) (MV m (.slice ak m.code.length ck)) (hS7) ?_ ?_
      ·rintro w⟨q0,q1,q2,q3,q4,q5⟩;go_simp
      try simp only[Act.put,qzF,qzG,qzH]
      refine tj 1 (⟨some 54,.fieldAddr 59 (.tmp 12) 1,0,_,_,none⟩) (.pointer (some ⟨b12,1,none⟩)) (hS7) ?_ ?_
      ·rintro w⟨q0,q1,q2,q3,q4,q5⟩;go_simp
      try simp only[Act.put,qzF,qzG,qzH]
      refine tj 2 (⟨some 55,.load 3 (.tmp 54),3,_,_,none⟩) (.int .i64 m.args) (hS7) ?_ ?_
      ·rintro w⟨q0,q1,q2,q3,q4,q5⟩;go_simp
      try simp only[Act.put,qzF,qzG,qzH]
      refine tj 3 (⟨some 56,.fieldAddr 57 (.tmp 7) 1,0,_,_,none⟩) (.pointer (some ⟨w.heap.size+1,1,none⟩)) (hS7) ?_ ?_
      ·rintro w⟨q0,q1,q2,q3,q4,q5⟩;go_simp
      try simp only[Act.put,qzF,qzG,qzH]
      refine tj 4 (⟨some 57,.load 3 (.tmp 56),3,_,_,none⟩) (.int .i64 x.a) (hS7) ?_ ?_
      ·rintro w⟨q0,q1,q2,q3,q4,q5⟩;go_simp
      try simp only[Act.put,qzF,qzG,qzH]
      refine tj 5 (⟨some 58,.binOp .eql 3 (.tmp 55) (.tmp 57) 3,4,_,_,none⟩) (.bool false) (hS7) ?_ ?_
      ·rintro w⟨q0,q1,q2,q3,q4,q5⟩;go_simp
      try simp only[Act.put,qzF,qzG,qzH]
      refine tj 6 (⟨some 59,.move (.tmp 58),4,_,_,none⟩) (.bool false) (hS7) ?_ ?_
      ·rintro w⟨q0,q1,q2,q3,q4,q5⟩;go_simp
      try simp only[Act.put,qzF,qzG,qzH]
      refine xee (i:=7) (oi:=⟨some 60,.load 59 (.tmp 12),59,_,_,some (6,true)⟩) (v:=undef) (by kernel_rfl) (by kernel_rfl) rfl (by kernel_rfl) (by kernel_rfl) (by kernel_rfl) (fun _ _ _ h=>h) (Or.inr ⟨by rfl,rfl⟩) (hS7) ?_
      try simp only[Act.put,qzF,qzG,qzH]
      refine xee (i:=8) (oi:=⟨some 61,.call ⟨.value (.func 64),#[.tmp 60],#[59]⟩,4,_,_,some (6,true)⟩) (v:=undef) (by kernel_rfl) (by kernel_rfl) rfl (by kernel_rfl) (by kernel_rfl) (by kernel_rfl) (fun _ _ _ h=>h) (Or.inr ⟨by rfl,rfl⟩) (hS7) ?_
      try simp only[Act.put,qzF,qzG,qzH]
      refine tj 9 (⟨some 62,.pick (.tmp 59) (.tmp 61) (.const (.bool false)),4,_,_,none⟩) (.bool false) (hS7) ?_ ?_
      ·rintro w⟨q0,q1,q2,q3,q4,q5⟩;go_simp
      try simp only[Act.put,qzF,qzG,qzH]
      refine xab (rs:=[10]) (by kernel_rfl) (by simp) ?_
      intro i hi;simp only[List.mem_cons,List.not_mem_nil,or_false] at hi;subst hi;refine xaN (o:=⟨none,.store 59 (.tmp 8) (.tmp 53),0,_,_,none⟩) rfl (fun K' hK=>?_)
      obtain⟨r0,r1,r2,r3,r4,rf⟩:=hZ _ (qzL _ V);obtain⟨z0,z1,z2,z3,z4,z5⟩:=hSl _ (qzL _ V);go_simp;refine hK _ _ (fun _=>?_) ?_
      ·exact⟨qzA (qzL _ _).drew (xc2 z0 (by omega)),qzA (qzL _ _).drew (xc2 z1 (by omega)),qzA (qzL _ _).drew (xc2 z2 (by omega)),qzA (qzL _ _).drew (xc2 z3 (by omega)),qzA (qzL _ _).drew (xc2 z4 (by omega)),qzA (qzL _ _).drew (xc2 z5 (by omega))⟩
      clear hK K'
      try simp only[Act.put,qzF,qzG,qzH]
      refine tj 11 (⟨some 9,.assign (.tmp 62),4,_,_,none⟩) (.bool false) (⟨qzA (qzL _ _).drew (xc2 z0 (by omega)),qzA (qzL _ _).drew (xc2 z1 (by omega)),qzA (qzL _ _).drew (xc2 z2 (by omega)),qzA (qzL _ _).drew (xc2 z3 (by omega)),qzA (qzL _ _).drew (xc2 z4 (by omega)),qzA (qzL _ _).drew (xc2 z5 (by omega))⟩) ?_ ?_
      ·rintro w⟨q0,q1,q2,q3,q4,q5⟩;go_simp
      try simp only[Act.put,qzF,qzG,qzH]
      refine xaz (by kernel_rfl) ?_ _
      try simp only[Act.put,qzF,qzG,qzH]
      have HQ:=xcr (xmR (U:=V) (m:=m) (a:=ak) (c:=ck) (b:=false) HST.out hbV hco);obtain⟨r0,r1,r2,r3,r4,rf⟩:=hZ _ (qzL _ V);go_wp2;refine qzK (v:=.tuple #[MV m (.slice ak m.code.length ck),.bool false]) ?_ rfl HQ.out.drew
      simp[results,Tryz.results41,go_sem,r0,r1,r2,r3,r4]
  ·have hge:(sites.length:Int)<=(at':Int):=by omega
   have HZ:=xcr (HN.out W hbW (by unfold xa3;rw[if_neg (by rw[List.getD_eq_getElem?_getD,List.getElem?_eq_none (by omega)];simp)]))
   clear hrow;go_wp2;refine qzK (v:=.tuple #[MV zM0 (.slice none 0 0),.bool false]) ?_ rfl HZ.out
   simp[results,Tryz.results41,go_sem,z0,z1,z2,z3,z4]
 ·have hd:(x.op == 14)=false:=by simpa using hop
  have hdn:(x.op != 14)=true:=by simpa using hop
  have HZ:=xcr (HN.out W hbW (by unfold xa3;rw[if_neg (by omega)]))
  clear hop;go_wp2;refine qzK (v:=.tuple #[MV zM0 (.slice none 0 0),.bool false]) ?_ rfl HZ.out
  simp[results,Tryz.results41,go_sem,z0,z1,z2,z3,z4]
structure Sml (m:QM):Prop where
 args:0<=m.args/\m.args<=4
 temps:0<=m.temps/\m.temps<=6
 len:m.code.length<=60
 code:∀ x∈m.code,(x.op=2\/x.op=3\/x.op=11\/x.op=15\/x.op=16)->0<=x.a/\x.a<=1000
 jump:∀ x∈m.code,(x.op=15\/x.op=16)->0<=x.a/\x.a<m.code.length
 plain:∀ x∈m.code,1<=x.op/\x.op<=17/\x.b=0/\x.c=0/\(x.op≠14->xl0 x.name=true)
theorem xmp {X:QW}(h:xaH X=0){c n:Int}{m:QM}(hm:xaI X.cz c n=some m)(hp0:m.prim≠0):m.args=1/\m.temps=0/\m.code=[]:=by
 rcases xdS h hm with ⟨-,-⟩ | ⟨h0,-⟩
 ·obtain⟨hs,-,hk,-⟩:=xcl h;unfold xaI at hm
  cases hx:xbx X.cz c with
  | none=>rw[hx] at hm;cases hm
  | some x=>
   rw[hx] at hm;simp only[Option.bind_some] at hm;obtain⟨k,rfl,hx'⟩:=xa7 hx
   split at hm
   ·have hr:=hk k x (xae hx') hx';unfold rkE at hr
    split at hr
    ·cases hr
    ·split at hr
     ·cases hr
     ·have hq:=xbM hr _ _ hm;unfold rmE at hq
      split at hq
      ·cases hq
      ·split at hq
       ·rename_i hp;unfold xgQ at hp;rw[List.any_eq_true] at hp;obtain⟨p,hpm,hp⟩:=hp;simp only[Bool.and_eq_true,decide_eq_true_eq] at hp
        exact⟨hp.1.1.2,hp.1.2,List.eq_nil_of_length_eq_zero hp.2⟩
       ·exfalso;unfold xd9 at hq
        split at hq
        ·rename_i a;exact absurd hq a
        ·rename_i a;have hw:wmE X.cz.length k m=0:=Decidable.of_not_not a;unfold wmE at hw
         split at hw
         ·cases hw
         ·split at hw
          ·cases hw
          ·split at hw
           ·cases hw
           ·cases hw
   ·cases hm
 ·exact absurd h0 hp0
theorem xda {X:QW}(h:xaH X=0){c n:Int}{m:QM}(hm:xaI X.cz c n=some m):Sml m:=by
 by_cases hp0:m.prim=0
 ·rcases xdS h hm with ⟨h0,-⟩ | ⟨-,S,N,hw,hn,-⟩
  ·exact absurd hp0 h0
  ·unfold wmE at hw
   split at hw
   ·cases hw
   ·split at hw
    ·cases hw
    ·split at hw
     ·cases hw
     ·rename_i hat
      split at hw
      ·cases hw
      ·split at hw
       ·cases hw
       ·rename_i hlen
        simp[inR] at hat hlen
        have hl:m.code.length<=60:=by omega
        refine⟨by omega,by omega,hl,fun x hx ho=>?_,fun x hx ho=>?_,fun x hx=>?_⟩
        ·have hx':=hn x hx;obtain⟨n1,n2,n3,n4,n5,n6,n7⟩:=xf0 hx'
         rcases ho with ho | ho | ho | ho | ho
         ·have:=n3 ho;omega
         ·have:=n4 (Or.inl ho);omega
         ·have:=n4 (Or.inr ho);omega
         ·unfold xgb at hx'
          split at hx'
          ·cases hx'
          ·split at hx'
           ·cases hx'
           ·rename_i hra;simp[raE,ho,inR] at hra;omega
         ·unfold xgb at hx'
          split at hx'
          ·cases hx'
          ·split at hx'
           ·cases hx'
           ·rename_i hra;simp[raE,ho,inR] at hra;omega
        ·have hx':=hn x hx;unfold xgb at hx'
         split at hx'
         ·cases hx'
         ·split at hx'
          ·cases hx'
          ·rename_i hra
           rcases ho with ho | ho<;>(simp[raE,ho,inR] at hra;omega)
        ·have hx':=hn x hx;obtain⟨n1,n2,n3,n4,n5,n6,n7⟩:=xf0 hx';refine⟨n1,n2,n6,n7,fun h14=>?_⟩
         unfold xgb at hx'
         split at hx'
         ·cases hx'
         ·split at hx'
          ·cases hx'
          ·split at hx'
           ·cases hx'
           ·rename_i hr
            have hrn:rnB x=true:=by
             cases hb:rnB x with
             | true=>rfl
             | false=>exact absurd (Or.inl hb) hr
            unfold rnB at hrn;rw[if_neg h14] at hrn
            exact hrn
 ·obtain⟨h1,h2,h3⟩:=xmp h hm hp0;refine⟨by omega,by omega,by rw[h3];simp,fun x hx=>(by rw[h3] at hx;cases hx),fun x hx=>(by rw[h3] at hx;cases hx),fun x hx=>(by rw[h3] at hx;cases hx)⟩
theorem xeY {xs:List QC}{k:Int}{name:ByteArray}{m:QM}(h:xd5 xs k name=some m):xaI xs (xaB xs k name).1 (xaB xs k name).2=some m:=by
 unfold xd5 at h
 split at h
 ·cases h
 ·rename_i h2;unfold xaI xbx
  rcases xfd xs k name with ⟨-,h3⟩ | ⟨q,x,t,y,he,hx,hm⟩
  ·exact absurd h3 h2
  ·rw[he] at h ⊢
   simp[hx,hm] at h ⊢
   exact h
theorem xbv {X:QW}(h:xaH X=0){sites:List Int}{at':Nat}{x:QI}{m:QM}(hs:xa3 X.cz sites at' x=some m):Sml m/\m.args=x.a/\xdj m=true/\x.op=14:=by
 unfold xa3 at hs
 split at hs
 ·rename_i ho
  split at hs
  ·cases hs
  ·rename_i m' hm
   split at hs
   ·rename_i hc
    cases hs
    exact⟨xda h (xeY hm),hc.1,hc.2,ho.1⟩
   ·cases hs
 ·cases hs
theorem xci {X:QW}(h:xaH X=0){sites:List Int}{m:QM}(hm:Sml m):∀ {k:Nat},k<=m.code.length->(xah X.cz sites m k).code.length+(m.code.length-k)<=240/\0<=(xah X.cz sites m k).temps/\(xah X.cz sites m k).temps<=40/\(xah X.cz sites m k).pieces<=k
 | 0,_=>by have:=hm.len;have:=hm.temps;exact⟨by simp[xah];omega,by simp[xah];omega,by simp[xah];omega,qzC _⟩
 | k+1,hk=>by
  obtain⟨i1,i2,i3,i4⟩:=xci h hm (sites:=sites) (k:=k) (by omega)
  rw[xbg (List.getElem?_eq_getElem (by omega))]
  generalize xah X.cz sites m k=s at *;generalize m.code[k]=x;unfold xdA xdZ
  cases hst:xa3 X.cz sites k x with
  | none=>simp only[List.length_append,List.length_cons,List.length_nil];omega
  | some leaf=>
   obtain⟨hsm,-⟩:=xbv h hst
   by_cases hr:xgy s.code.length s.temps leaf ((m.code.length:Int)-k)=true
   ·simp only[hr,if_true,List.length_append,xbB];unfold xgy at hr;have hr':=of_decide_eq_true hr;have:=hsm.args;have:=hsm.temps
    omega
   ·simp only[hr,if_false,List.length_append,List.length_cons,List.length_nil]
    simp
    omega
end Go.Proofs.YtaodadfahifbpaaGreat
