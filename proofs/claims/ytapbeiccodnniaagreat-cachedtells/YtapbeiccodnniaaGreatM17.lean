/- A part. -/
import Derived.Test.YtapbeiccodnniaaGreatM15
namespace Go.Proofs.YtapbeiccodnniaaGreat
open Go.ChangeShapes Go.WideShapes Go.ChangeAt Go.RowKit
set_option linter.unusedSimpArgs false
set_option linter.unusedVariables false
set_option maxHeartbeats 8000000
set_option maxRecDepth 8000
section
variable {σ:Type} {p:Mp σ} {T T':Nat->Nat} {w w':World} {mb:Nat} {m m':Mc σ} {calls calls':Int} {hv:Value} {g:Nat} {s:Nat->Nat} {K fb:Nat} {f:Fr} {cv av tv sv kv:Value}
theorem HeapSt.slots {xs:List QO}(h:HeapSt T w hv g s xs){i:Nat}{x:QO}(hx:xs[i]?=some x){vs:List QV}(k:Kp (fun t=>t=1) (fun b=>if b=s i then 1 else 0) w w')(hn:w'.heap[s i]?=some (.cells (xal vs).toArray 27 (0,0)))(hl:vs.length=x.slots.length):HeapSt T w' hv g s (xs.set i ⟨x.cls,vs⟩):=by
 have hi:=xae hx;obtain⟨e1,e2,e3,e4,e5,e6⟩:=h.obj i x hx;have hk:∀ b,b<w.heap.size->b≠s i->w'.heap[b]?=w.heap[b]?:=fun b hb hne=>k.blk b hb (by simp[hne])
 have hc:∀ o u,w.cell? ⟨g,o,none⟩=some u->w'.cell? ⟨g,o,none⟩=some u:=fun o u hu=>by
  unfold World.cell? at hu ⊢;rw[hk g h.there (Ne.symm e5)];exact hu
 refine⟨by simpa using h.form,by simpa using h.len,qzE h.there k.size,h.tg,fun j y hy=>?_,fun a b ha hb=>h.inj a b (by simpa using ha) (by simpa using hb)⟩
 by_cases hj:j=i
 ·subst hj;rw[List.getElem?_set_self hi] at hy
  cases hy
  exact⟨hc _ _ e1,by rw[hl];exact hc _ _ e2,hn,e4,e5,by rw[hl];exact e6⟩
 ·rw[List.getElem?_set_ne (by omega)] at hy
  obtain⟨d1,d2,d3,d4,d5,d6⟩:=h.obj j y hy
  exact⟨hc _ _ d1,hc _ _ d2,by rw[hk _ (xaf d3) fun e=>hj (h.inj j i (xae hy) hi e)];exact d3,d4,d5,d6⟩
theorem xeV (h:MacAt p T w mb m calls hv g s)(v:QV)(n:Int)(x:QV):Calls Tryz.prog 105 #[.pointer (some ⟨mb,0,none⟩),VV v,.int .i64 n,VV x] w fun e w'=>e=.returned (.tuple #[])/\(∃ T',Ext T T' w/\MacAt p T' w' mb { m with heap:=xaR m.heap v n x } calls hv g s)/\Kp (fun t=>t=2) T w w':=by
 have hlt:=xaf h.box;have hb2:=xca w (.cells #[.int .i64 v.k,.int .i64 v.n] 27) (.cells #[.int .i64 x.k,.int .i64 x.n] 27);have hM:=(h.tagged0 4).later hb2;have hX:=xao T w 4;have hT4:∀ b,w.heap.size<=b->xau T w 4 b=4:=fun b hb=>xav hb
 have b0:((w.alloc (.cells #[.int .i64 v.k,.int .i64 v.n] 27)).alloc (.cells #[.int .i64 x.k,.int .i64 x.n] 27)).cell? ⟨w.heap.size,0,none⟩=some (.int .i64 v.k):=qzA (xaj _ _) (xaa _ _ _ _ rfl 0);have b1:((w.alloc (.cells #[.int .i64 v.k,.int .i64 v.n] 27)).alloc (.cells #[.int .i64 x.k,.int .i64 x.n] 27)).cell? ⟨w.heap.size,1,none⟩=some (.int .i64 v.n):=qzA (xaj _ _) (xaa _ _ _ _ rfl 1);have x0:((w.alloc (.cells #[.int .i64 v.k,.int .i64 v.n] 27)).alloc (.cells #[.int .i64 x.k,.int .i64 x.n] 27)).cell? ⟨w.heap.size+1,0,none⟩=some (.int .i64 x.k):=xaa _ _ _ _ (by simp) 0
 have x1:((w.alloc (.cells #[.int .i64 v.k,.int .i64 v.n] 27)).alloc (.cells #[.int .i64 x.k,.int .i64 x.n] 27)).cell? ⟨w.heap.size+1,1,none⟩=some (.int .i64 x.n):=xaa _ _ _ _ (by simp) 1
 clear h;generalize xau T w 4=T1 at *;go_enter Tryz.func105,Tryz.ntmps105
 go_upto_region 1 with (fail)
 generalize ((w.alloc (.cells #[.int .i64 v.k,.int .i64 v.n] 27)).alloc (.cells #[.int .i64 x.k,.int .i64 x.n] 27))=W at *;have c1:=hM.c1;obtain⟨cap,rfl,hc1,hc2⟩:=hM.heap.form;unfold maxLen at hc2;have KW:Hid (Kp (fun t=>t=2) T w W):=Kp.of_below hb2
 have HM:=hid hM
 cases hi:xdr m.heap.length v with
 | false=>
  have HN:Hid (xaR m.heap v n x=m.heap):=by show _=_;unfold xaR;rw[xdO hi]
  have HD:Hid ((∃ T',Ext T T' w/\MacAt p T' W.drew mb { m with heap:=xaR m.heap v n x } calls (.slice (some ⟨g,0,none⟩) m.heap.length cap) g s)/\Kp (fun t=>t=2) T w W.drew):=⟨⟨T1,hX,by rw[HN.out];exact hM.later (qzL _ _).drew⟩,KW.out.drew⟩
  clear hM hb2;unfold xdr at hi;simp only[decide_eq_false_iff_not] at hi
  by_cases hk:v.k=4
  ·have hk':(v.k == 4)=true:=by simpa using hk
   by_cases hn:v.n<0
   ·have hn':decide (0<=v.n)=false:=by simpa using hn
    clear hi
    go_region
    go_wp2
    exact bodyPost_end (v:=.tuple #[]) (by simp[results,Tryz.results105,go_sem]) rfl ⟨rfl,HD.out⟩
   ·have hn':decide (0<=v.n)=true:=by simpa using hn
    have hl:decide (v.n<(m.heap.length:Int))=false:=by simp;omega
    clear hi
    go_region
    go_wp2
    exact bodyPost_end (v:=.tuple #[]) (by simp[results,Tryz.results105,go_sem]) rfl ⟨rfl,HD.out⟩
  ·have hk':(v.k == 4)=false:=by simpa using hk
   clear hi
   go_region
   go_wp2
   exact bodyPost_end (v:=.tuple #[]) (by simp[results,Tryz.results105,go_sem]) rfl ⟨rfl,HD.out⟩
 | true=>
  obtain⟨j,o,hj,hjl,hjo,hob⟩:=xe6 hi;have hk:v.k=4:=by unfold xdr at hi;simp only[decide_eq_true_eq] at hi;exact hi.1
  have hk':(v.k == 4)=true:=by simpa using hk
  have HN:Hid (xaR m.heap v n x=m.heap.set j ⟨o.cls,xaV o.slots n x⟩):=by show _=_;unfold xaR;rw[hob];simp[hj]
  obtain⟨e1,e2,e3,e4,e5,e6⟩:=hM.heap.obj j o hjo;have HJ:=hid hjo;rw[hj] at b1;have hj1:(j:Int)<(m.heap.length:Int):=by omega
  have hj0:(0:Int)<=(j:Int):=by omega
  have n1:¬ mb=s j:=fun e=>by have:=hM.tag;rw[e,e4] at this;omega
  have n2:¬ w.heap.size=s j:=fun e=>by have:=hT4 w.heap.size (qzC _);rw[e,e4] at this;omega
  have n3:¬ w.heap.size+1=s j:=fun e=>by have:=hT4 (w.heap.size+1) (by omega);rw[e,e4] at this;omega
  have n4:¬ g=s j:=Ne.symm e5;have HE3:Hid (W.drew.drew.heap[s j]?=some (.cells (xal o.slots).toArray 27 (0,0))):=e3;have hS0:W.drew.drew.cell? ⟨mb,1,none⟩=some (.slice (some ⟨g,0,none⟩) m.heap.length cap)/\W.drew.drew.cell? ⟨w.heap.size,1,none⟩=some (.int .i64 (j:Int))/\W.drew.drew.cell? ⟨w.heap.size+1,0,none⟩=some (.int .i64 x.k)/\W.drew.drew.cell? ⟨w.heap.size+1,1,none⟩=some (.int .i64 x.n)/\W.drew.drew.cell? ⟨g,j*2+1,none⟩=some (.slice (some ⟨s j,0,none⟩) o.slots.length o.slots.length):=⟨c1,b1,x0,x1,e2⟩;have HT:=hid e4;clear hi hj hob hb2 hk e1 e3 e4 e5 e6 hM hjo
  go_region
  go_wp2;clear b0 b1 x0 x1 c1 e2;have hent:Calls Tryz.prog 104 #[.slice (some ⟨s j,0,none⟩) o.slots.length o.slots.length,.int .i64 n,VV x] W.drew.drew _:=xeB o.slots (s j) n x _ HE3.out
  go_region_held3 (fun w'=>w'.cell? ⟨mb,1,none⟩=some (.slice (some ⟨g,0,none⟩) m.heap.length cap)/\w'.cell? ⟨w.heap.size,1,none⟩=some (.int .i64 (j:Int))/\w'.cell? ⟨w.heap.size+1,0,none⟩=some (.int .i64 x.k)/\w'.cell? ⟨w.heap.size+1,1,none⟩=some (.int .i64 x.n)/\w'.cell? ⟨g,j*2+1,none⟩=some (.slice (some ⟨s j,0,none⟩) o.slots.length o.slots.length))
   (first | with_reducible exact hS0 | with_reducible exact hS1)
   (first | (go_at_call 104;refine hent.mono ?_;rintro e w1 ⟨rfl,hw1,hz1,hka⟩;have k1:=hka (fun t=>t=1) (fun b=>if b=s j then 1 else 0) (by simp);have hS1:=And.intro (k1.cell hS0.1 (by simp[n1])) (And.intro (k1.cell hS0.2.1 (by simp[n2])) (And.intro (k1.cell hS0.2.2.1 (by simp[n3])) (And.intro (k1.cell hS0.2.2.2.1 (by simp[n3])) (k1.cell hS0.2.2.2.2 (by simp[n4])))))))
  go_wp2;have kT:=hka (fun t=>t=2) T1 HT.out
  refine bodyPost_end (v:=.tuple #[]) (by simp[results,Tryz.results105,go_sem]) rfl ⟨rfl,⟨T1,hX,?_⟩,?_⟩
  ·have hm:=HM.out.later (w':=W.drew.drew) ((qzL _ _).drew).drew;refine⟨kT.held hm.box (by rw[hm.tag];omega),hm.tag,?_,hm.cls.fx xaz (.refl _ _) kT (by omega)⟩
   rw[HN.out]
   exact hm.heap.slots HJ.out k1 hw1 (xcd _ _ _)
  ·exact KW.out.trans hX (((Kp.refl _ _ _).drew.drew).trans (.refl _ _) kT)
end
section
variable {σ:Type} {p:Mp σ} {T T':Nat->Nat} {w w':World} {mb:Nat} {m m':Mc σ} {calls calls':Int} {hv:Value} {g:Nat} {s:Nat->Nat} {K fb:Nat} {f:Fr} {cv av tv sv kv:Value}
theorem xlz (h:FrAt T K w fb f cv av tv sv kv)(a:Int)(x:QI):Calls Tryz.prog 115 #[.pointer (some ⟨fb,0,none⟩),.int .i64 a,IV x] w fun e w'=>e=.returned (SV (f.site a x))/\Below w.heap.size w w':=by
 have hlt:=xaf h.box;have hb2:=xca w (.cells #[.int .i64 x.op,.int .i64 x.a,.int .i64 x.b,.int .i64 x.c,.string x.name] 76) (.cells #[.int .i64 0,.string ⟨#[]⟩,.int .i64 0] 67);have h2:=h.later hb2;have x3:((w.alloc (.cells #[.int .i64 x.op,.int .i64 x.a,.int .i64 x.b,.int .i64 x.c,.string x.name] 76)).alloc (.cells #[.int .i64 0,.string ⟨#[]⟩,.int .i64 0] 67)).cell? ⟨w.heap.size,3,none⟩=some (.int .i64 x.c):=qzA (xaj _ _) (xaa _ _ _ _ rfl 3);have r0:((w.alloc (.cells #[.int .i64 x.op,.int .i64 x.a,.int .i64 x.b,.int .i64 x.c,.string x.name] 76)).alloc (.cells #[.int .i64 0,.string ⟨#[]⟩,.int .i64 0] 67)).cell? ⟨w.heap.size+1,0,none⟩=some (.int .i64 0):=xaa _ _ _ _ (by simp) 0
 have r1:((w.alloc (.cells #[.int .i64 x.op,.int .i64 x.a,.int .i64 x.b,.int .i64 x.c,.string x.name] 76)).alloc (.cells #[.int .i64 0,.string ⟨#[]⟩,.int .i64 0] 67)).cell? ⟨w.heap.size+1,1,none⟩=some (.string ⟨#[]⟩):=xaa _ _ _ _ (by simp) 1
 have r2:((w.alloc (.cells #[.int .i64 x.op,.int .i64 x.a,.int .i64 x.b,.int .i64 x.c,.string x.name] 76)).alloc (.cells #[.int .i64 0,.string ⟨#[]⟩,.int .i64 0] 67)).cell? ⟨w.heap.size+1,2,none⟩=some (.int .i64 0):=xaa _ _ _ _ (by simp) 2
 have rf:∀ o,((w.alloc (.cells #[.int .i64 x.op,.int .i64 x.a,.int .i64 x.b,.int .i64 x.c,.string x.name] 76)).alloc (.cells #[.int .i64 0,.string ⟨#[]⟩,.int .i64 0] 67)).frozen? ⟨w.heap.size+1,o,none⟩=false:=fun o=>xam (cur:=#[.int .i64 0,.string ⟨#[]⟩,.int .i64 0]) (t:=67) (by have:=qzJ (w.alloc (.cells #[.int .i64 x.op,.int .i64 x.a,.int .i64 x.b,.int .i64 x.c,.string x.name] 76)) (.cells #[.int .i64 0,.string ⟨#[]⟩,.int .i64 0] 67);simpa using this) o
 clear h;go_enter Tryz.func115,Tryz.ntmps115
 go_upto_region 1 with (fail)
 generalize ((w.alloc (.cells #[.int .i64 x.op,.int .i64 x.a,.int .i64 x.b,.int .i64 x.c,.string x.name] 76)).alloc (.cells #[.int .i64 0,.string ⟨#[]⟩,.int .i64 0] 67))=W at *;have c0:W.cell? ⟨fb,0,none⟩=some (.int .i64 f.cls):=by rw[qzB h2.box];rfl
 have c1:W.cell? ⟨fb,1,none⟩=some (.string f.meth.name):=by rw[qzB h2.box];rfl
 have c13:W.cell? ⟨fb,13,none⟩=some (.bool f.fast):=by rw[qzB h2.box];rfl
 have hne:¬ fb=w.heap.size+1:=by omega
 have hne':¬ w.heap.size+1=fb:=by omega
 have HB:=hid hb2;clear h2 hb2
 cases hf:f.fast with
 | false=>
  have HS:Hid (f.site a x=⟨f.cls,f.meth.name,a⟩):=by show _=_;unfold Fr.site;rw[hf];rfl
  rw[hf] at c13;go_wp2
  go_region
  all_goals (
   go_wp2;refine qzK (v:=SV ⟨f.cls,f.meth.name,a⟩) ?_ rfl ⟨by rw[HS.out],(((HB.out.setCell (by simp) _).setCell (by simp) _).setCell (by simp) _).drew⟩
   simp[results,Tryz.results115,go_sem,r0,r1,r2])
 | true=>
  have HS:Hid (f.site a x=⟨f.cls,f.meth.name,x.c⟩):=by show _=_;unfold Fr.site;rw[hf];rfl
  rw[hf] at c13;go_wp2
  go_region
  all_goals (
   go_wp2;refine qzK (v:=SV ⟨f.cls,f.meth.name,x.c⟩) ?_ rfl ⟨by rw[HS.out],(((HB.out.setCell (by simp) _).setCell (by simp) _).setCell (by simp) _).drew⟩
   simp[results,Tryz.results115,go_sem,r0,r1,r2])
abbrev FaV (c:Int)(nm:ByteArray)(e t:Int)(kv:Value):Value:=.agg #[.int .i64 c,.string nm,.int .i64 e,.int .i64 t,kv]
theorem xlI (h:w.heap[fb]?=some (FB f cv av tv sv kv))(tv' kv':Value)(t:List QV)(c:List QI):((w.setCell ⟨fb,11,none⟩ kv').setCell ⟨fb,9,none⟩ tv').heap[fb]?=some (FB { f with temps:=t,code:=c } cv av tv' sv kv'):=by
 rw[xad (xad h _)];rfl
theorem xkJ (h:w.heap[fb]?=some (FB f cv av tv sv kv))(tv' kv':Value)(t:List QV)(c:List QI):(((w.setCell ⟨fb,11,none⟩ kv').setCell ⟨fb,9,none⟩ tv').setCell ⟨fb,13,none⟩ (.bool true)).heap[fb]?=some (FB { f with temps:=t,code:=c,fast:=true } cv av tv' sv kv'):=by
 rw[xad (xad (xad h _) _)];rfl
structure FrNew (T:Nat->Nat)(K:Nat)(w:World)(fb:Nat)(f:Fr)(cv av:Value):Prop where
 box:w.heap[fb]?=some (FB f cv av (.slice none 0 0) (.slice none 0 0) (.slice none 0 0))
 tag:T fb=K
 args:xaB (Fx T w) w av f.args
 meth:xa5 (Fx T w) w cv f.meth.code
 pos:5<=K
 stack:f.stack=[]
theorem xet (n:Int):(xaQ n).length<=40:=by unfold xaQ;simp;omega
theorem FrNew.begun {w1 w2:World}{tb:Nat}{t:List QV}{c:List QI}{fl:Bool}(h:FrNew T K w fb f cv av)(hb:Below w.heap.size w w1)(htb:w1.heap[tb]?=some (.cells (xal t).toArray 27 (0,0)))(hl:t.length<=40)(hg:w.heap.size<=tb)(k:Kp (fun t=>t=1) (fun b=>if b=fb then 1 else 0) w1 w2)(hx:w2.heap[fb]?=some (FB { f with temps:=t,code:=c,fast:=fl } cv av (.slice (some ⟨tb,0,none⟩) t.length t.length) (.slice none 0 0) kv))(hk:xa5 (Fx T w) w kv c) :
  ∃ T',Ext T T' w/\FrAt T' K w2 fb { f with temps:=t,code:=c,fast:=fl } cv av (.slice (some ⟨tb,0,none⟩) t.length t.length) (.slice none 0 0) kv/\Kp (fun t=>t=K) T w w2:=by
 have hlt:=xaf h.box;have hp:=h.pos;have e:Ext T (xhE T tb (K+1)) w:=xd5 hg
 have kw:Kp (fun t=>t=K) T w w2:=⟨k.os.trans hb.os,k.tape.trans hb.tape,k.output.trans hb.output,qzD hb.size k.size,fun b hb1 hs=>by
  rw[k.blk b (qzE hb1 hb.size) (by have:b≠fb:=fun e=>hs (by rw[e];exact h.tag);simp[this]),hb.block b hb1]⟩
 refine⟨xhE T tb (K+1),e,⟨hx,by rw[e _ hlt];exact h.tag,h.args.fx xaK e kw (by omega),⟨tb,rfl,?_,xdv _ _ _,hl⟩,?_,(fun g hg=>by cases hg),?_,hk.fx xbl e kw (by omega),h.meth.fx xbl e kw (by omega),hp⟩,kw⟩
 ·exact k.held htb (by
   have:tb≠fb:=by omega
   simp[this])
 ·show ownsAt w2 0 27 2 _ f.stack.length (xal f.stack)
  rw[h.stack]
  exact⟨rfl,Or.inl ⟨rfl,rfl⟩⟩
 ·show f.stack.length<=_
  rw[h.stack];simp
theorem xil (h:FrNew T K w fb f cv av)(hf:f.fast=false)(qv:Value)(qc:Int)(qn:ByteArray)(qe qt:Int):Calls Tryz.prog 80 #[.pointer (some ⟨fb,0,none⟩),FaV qc qn qe qt qv,.bool false] w fun e w'=>e=.returned (.tuple #[])/\∃ T' tv sv kv,Ext T T' w/\FrAt T' K w' fb { f with temps:=xaQ f.meth.temps,code:=f.meth.code,fast:=false } cv av tv sv kv/\Kp (fun t=>t=K) T w w':=by
 have hlt:=xaf h.box;have hb1:Below w.heap.size w (w.alloc (.cells #[.int .i64 qc,.string qn,.int .i64 qe,.int .i64 qt,qv] 118)).drew:=(xaj _ _).drew;have hx:=xac h.box hb1;have hS0:(w.alloc (.cells #[.int .i64 qc,.string qn,.int .i64 qe,.int .i64 qt,qv] 118)).drew.cell? ⟨fb,5,none⟩=some cv/\(w.alloc (.cells #[.int .i64 qc,.string qn,.int .i64 qe,.int .i64 qt,qv] 118)).drew.cell? ⟨fb,3,none⟩=some (.int .i64 f.meth.temps):=⟨by rw[qzB hx];rfl,by rw[qzB hx];rfl⟩
 obtain⟨a,cap,rfl,-⟩:=id h.meth;have H:=hid h;have HX:=hid hx;have HB:=hid hb1;have HFF:Hid (∀ t c,({ f with temps:=t,code:=c }:Fr)={ f with temps:=t,code:=c,fast:=false }):=fun t c=>by rw[hf]
 clear h hx hb1 hf;go_enter Tryz.func80,Tryz.ntmps80
 go_upto_region 1 with (fail)
 generalize (w.alloc (.cells #[.int .i64 qc,.string qn,.int .i64 qe,.int .i64 qt,qv] 118))=W at *;go_wp2
 go_region_held3 (fun w'=>w'.cell? ⟨fb,5,none⟩=some (.slice a f.meth.code.length cap)/\w'.cell? ⟨fb,3,none⟩=some (.int .i64 f.meth.temps))
  (first | with_reducible exact hS0 | with_reducible exact hS1 | exact⟨(qzM _ _ _ _ (by simp)).trans hS1.1,(qzM _ _ _ _ (by simp)).trans hS1.2⟩ | exact⟨(qzM _ _ _ _ (by simp)).trans ((qzM _ _ _ _ (by simp)).trans hS1.1),(qzM _ _ _ _ (by simp)).trans ((qzM _ _ _ _ (by simp)).trans hS1.2)⟩)
  (first | (go_at_call 93;refine (xeR f.meth.temps _).mono ?_;rintro e w1 ⟨tb,rfl,htb,hgt,hb1⟩;have hS1:=And.intro (qzA hb1 hS0.1) (qzA hb1 hS0.2);have hx1:=xac HX.out hb1;have df:=xam hx1;have d11:w1.cell? ⟨fb,11,none⟩=some (.slice none 0 0):=(by rw[qzB hx1];rfl);have d9:w1.cell? ⟨fb,9,none⟩=some (.slice none 0 0):=(by rw[qzB hx1];rfl);have HX1:=hid hx1;clear hx1))
 all_goals (
  go_wp2;have k:Kp (fun t=>t=1) (fun b=>if b=fb then 1 else 0) w1 ((w1.setCell ⟨fb,11,none⟩ (.slice a f.meth.code.length cap)).setCell ⟨fb,9,none⟩ (.slice (some ⟨tb,0,none⟩) (xaQ f.meth.temps).length (xaQ f.meth.temps).length)):=((Kp.refl _ _ _).set (fun _=>by simp) _ _).set (fun _=>by simp) _ _
  have hx2:=xlI HX1.out (.slice (some ⟨tb,0,none⟩) (xaQ f.meth.temps).length (xaQ f.meth.temps).length) (.slice a f.meth.code.length cap) (xaQ f.meth.temps) f.meth.code;rw[HFF.out (xaQ f.meth.temps) f.meth.code] at hx2;obtain⟨T',q1,q2,q3⟩:=H.out.begun (xah HB.out hb1) htb (xet _) (qzD HB.out.size hgt) k hx2 H.out.meth
  exact bodyPost_end (v:=.tuple #[]) (by simp[results,Tryz.results80,go_sem]) rfl ⟨rfl,T',_,_,_,q1,q2,q3⟩)
theorem xjI (h:FrNew T K w fb f cv av)(qv:Value)(qc:Int)(qn:ByteArray)(qe qt:Int)(code:List QI)(hq:xa5 (Fx T w) w qv code):Calls Tryz.prog 80 #[.pointer (some ⟨fb,0,none⟩),FaV qc qn qe qt qv,.bool true] w fun e w'=>e=.returned (.tuple #[])/\∃ T' tv sv kv,Ext T T' w/\FrAt T' K w' fb { f with temps:=xaQ qt,code:=code,fast:=true } cv av tv sv kv/\Kp (fun t=>t=K) T w w':=by
 have hlt:=xaf h.box;have hb1:Below w.heap.size w (w.alloc (.cells #[.int .i64 qc,.string qn,.int .i64 qe,.int .i64 qt,qv] 118)).drew:=(xaj _ _).drew;have hx:=xac h.box hb1;have hS0:(w.alloc (.cells #[.int .i64 qc,.string qn,.int .i64 qe,.int .i64 qt,qv] 118)).drew.cell? ⟨w.heap.size,4,none⟩=some qv/\(w.alloc (.cells #[.int .i64 qc,.string qn,.int .i64 qe,.int .i64 qt,qv] 118)).drew.cell? ⟨w.heap.size,3,none⟩=some (.int .i64 qt):=⟨xaa w #[.int .i64 qc,.string qn,.int .i64 qe,.int .i64 qt,qv] 118 _ rfl 4,xaa w #[.int .i64 qc,.string qn,.int .i64 qe,.int .i64 qt,qv] 118 _ rfl 3⟩;have H:=hid h;have HX:=hid hx
 have HB:=hid hb1;have HQ:=hid hq;have hne:¬ w.heap.size=fb:=by omega
 have hne':¬ fb=w.heap.size:=by omega
 obtain⟨a,cap,rfl,-⟩:=id hq;clear h hx hb1 hq;go_enter Tryz.func80,Tryz.ntmps80
 go_upto_region 1 with (fail)
 generalize (w.alloc (.cells #[.int .i64 qc,.string qn,.int .i64 qe,.int .i64 qt,.slice a code.length cap] 118))=W at *;go_wp2
 go_region_held3 (fun w'=>w'.cell? ⟨w.heap.size,4,none⟩=some (.slice a code.length cap)/\w'.cell? ⟨w.heap.size,3,none⟩=some (.int .i64 qt))
  (first | with_reducible exact hS0 | with_reducible exact hS1 | exact⟨(qzI _ _ _ _ (by simp;omega)).trans hS1.1,(qzI _ _ _ _ (by simp;omega)).trans hS1.2⟩ | exact⟨(qzI _ _ _ _ (by simp;omega)).trans ((qzI _ _ _ _ (by simp;omega)).trans hS1.1),(qzI _ _ _ _ (by simp;omega)).trans ((qzI _ _ _ _ (by simp;omega)).trans hS1.2)⟩ | exact⟨(qzI _ _ _ _ (by simp;omega)).trans ((qzI _ _ _ _ (by simp;omega)).trans ((qzI _ _ _ _ (by simp;omega)).trans hS1.1)),(qzI _ _ _ _ (by simp;omega)).trans ((qzI _ _ _ _ (by simp;omega)).trans ((qzI _ _ _ _ (by simp;omega)).trans hS1.2))⟩)
  (first | (go_at_call 93;refine (xeR qt _).mono ?_;rintro e w1 ⟨tb,rfl,htb,hgt,hb1⟩;have hS1:=And.intro (qzA hb1 hS0.1) (qzA hb1 hS0.2);have hx1:=xac HX.out hb1;have df:=xam hx1;have d11:w1.cell? ⟨fb,11,none⟩=some (.slice none 0 0):=(by rw[qzB hx1];rfl);have d9:w1.cell? ⟨fb,9,none⟩=some (.slice none 0 0):=(by rw[qzB hx1];rfl);have d13:w1.cell? ⟨fb,13,none⟩=some (.bool f.fast):=(by rw[qzB hx1];rfl);have HX1:=hid hx1;clear hx1))
 all_goals (
  go_wp2;have k:Kp (fun t=>t=1) (fun b=>if b=fb then 1 else 0) w1 (((w1.setCell ⟨fb,11,none⟩ (.slice a code.length cap)).setCell ⟨fb,9,none⟩ (.slice (some ⟨tb,0,none⟩) (xaQ qt).length (xaQ qt).length)).setCell ⟨fb,13,none⟩ (.bool true)):=(((Kp.refl _ _ _).set (fun _=>by simp) _ _).set (fun _=>by simp) _ _).set (fun _=>by simp) _ _
  have hx2:=xkJ HX1.out (.slice (some ⟨tb,0,none⟩) (xaQ qt).length (xaQ qt).length) (.slice a code.length cap) (xaQ qt) code;obtain⟨T',q1,q2,q3⟩:=H.out.begun (xah HB.out hb1) htb (xet _) (qzD HB.out.size hgt) k hx2 HQ.out
  exact qzK (v:=.tuple #[]) (by simp[results,Tryz.results80,go_sem]) rfl ⟨rfl,T',_,_,_,q1,q2,q3⟩)
end
section
variable {σ:Type} {p:Mp σ} {T T':Nat->Nat} {w w':World} {mb:Nat} {m m':Mc σ} {calls calls':Int} {hv:Value} {g:Nat} {s:Nat->Nat} {K fb:Nat} {f:Fr} {cv av tv sv kv:Value}
structure PuR (w:World)(x:QI)(w':World):Prop where
 bel:Below w.heap.size w w'
 x0:w'.cell? ⟨w.heap.size,0,none⟩=some (.int .i64 x.op)
 x1:w'.cell? ⟨w.heap.size,1,none⟩=some (.int .i64 x.a)
 r0:w'.cell? ⟨w.heap.size+1,0,none⟩=some (.int .i64 0)
 r1:w'.cell? ⟨w.heap.size+1,1,none⟩=some (.int .i64 0)
 rf:∀ o,w'.frozen? ⟨w.heap.size+1,o,none⟩=false
 sz:w.heap.size+2<=w'.heap.size
theorem PuR.later {w:World}{x:QI}{w' w'':World}(h:PuR w x w')(hb:Below w'.heap.size w' w''):PuR w x w'':=
 ⟨xah h.bel hb,qzA hb h.x0,qzA hb h.x1,qzA hb h.r0,qzA hb h.r1,fun o=>(hb.frozen (p:=⟨w.heap.size+1,o,none⟩) (by have:=h.sz;simp only;omega)).trans (h.rf o),qzD h.sz hb.size⟩
theorem xnR (w:World)(x:QI):PuR w x ((w.alloc (.cells #[.int .i64 x.op,.int .i64 x.a,.int .i64 x.b,.int .i64 x.c,.string x.name] 76)).alloc (.cells #[.int .i64 0,.int .i64 0] 27)):=by
 refine⟨xca _ _ _,qzA (xaj _ _) (xaa _ _ _ _ rfl 0),qzA (xaj _ _) (xaa _ _ _ _ rfl 1),xaa _ _ _ _ (by simp) 0,xaa _ _ _ _ (by simp) 1,fun o=>xam (cur:=#[.int .i64 0,.int .i64 0]) (t:=27) ?_ o,by simp⟩
 have:=qzJ (w.alloc (.cells #[.int .i64 x.op,.int .i64 x.a,.int .i64 x.b,.int .i64 x.c,.string x.name] 76)) (.cells #[.int .i64 0,.int .i64 0] 27)
 simpa using this
theorem FrAt.c (h:FrAt T K w fb f cv av tv sv kv):w.cell? ⟨fb,6,none⟩=some (.int .i64 f.self.k)/\w.cell? ⟨fb,7,none⟩=some (.int .i64 f.self.n)/\w.cell? ⟨fb,8,none⟩=some av/\w.cell? ⟨fb,9,none⟩=some tv:=by
 refine⟨?_,?_,?_,?_⟩<;>(rw[qzB h.box];rfl)
theorem FrAt.tempsV (h:FrAt T K w fb f cv av tv sv kv):xaB (fun _=>True) w tv f.temps:=by
 obtain⟨tb,rfl,h1,-,h2⟩:=h.temps
 exact xgp h1 trivial (by omega)
theorem xjR (h:MacAt p T w mb m calls hv g s)(hF:FrAt T K w fb f cv av tv sv kv)(x:QI):Calls Tryz.prog 102 #[.pointer (some ⟨mb,0,none⟩),.pointer (some ⟨fb,0,none⟩),IV x] w fun e w'=>e=.returned (.tuple #[VV ((xaA m.heap f x).getD xaU),.bool (xaA m.heap f x).isSome])/\Below w.heap.size w w':=by
 have hlf:=xaf hF.box;have hlm:=xaf h.box;have hR:=xnR w x;have hM:=h.later hR.bel;have hFr:=hF.later hR.bel;clear h hF;go_enter Tryz.func102,Tryz.ntmps102
 go_upto_region 1 with (fail)
 generalize ((w.alloc (.cells #[.int .i64 x.op,.int .i64 x.a,.int .i64 x.b,.int .i64 x.c,.string x.name] 76)).alloc (.cells #[.int .i64 0,.int .i64 0] 27))=W at *;obtain⟨f6,f7,f8,f9⟩:=hFr.c;have m1:=hM.c1;have hA:=hFr.args;have hT:=hFr.tempsV;have hH:=hM.heap.heap;obtain⟨-,x0,x1,r0,r1,rf,sz⟩:=id hR;obtain⟨aa,ca,rfl,-⟩:=id hA;obtain⟨at',ct,rfl,-⟩:=id hT;obtain⟨ah,ch,rfl,-⟩:=id hH;have nf:¬ fb=w.heap.size+1:=by omega
 have nf':¬ w.heap.size+1=fb:=by omega
 have nm:¬ mb=w.heap.size+1:=by omega
 have nm':¬ w.heap.size+1=mb:=by omega
 have HR:=hid hR;clear hFr hM hR
 by_cases h1:x.op=1
 ·have HV:Hid (xaA m.heap f x=some f.self):=by show _=_;unfold xaA;rw[if_pos h1]
  have h1':(x.op == 1)=true:=by simpa using h1
  clear h1;go_wp2;refine qzK (v:=.tuple #[VV f.self,.bool true]) ?_ rfl ⟨by rw[HV.out];rfl,((HR.out.bel.setCell (by simp) _).setCell (by simp) _)⟩
  simp[results,Tryz.results102,go_sem,r0,r1]
 have h1':(x.op == 1)=false:=by simpa using h1
 by_cases h2:x.op=2
 ·have HV:Hid (xaA m.heap f x=some (xaM f.args x.a)):=by show _=_;unfold xaA;rw[if_neg h1];rw[if_pos h2]
  have h2':(x.op == 2)=true:=by simpa using h2
  clear h1 h2;go_wp2;have hS0:(fun w'=>w'.cell? ⟨fb,8,none⟩=some (.slice aa f.args.length ca)/\w'.cell? ⟨w.heap.size,1,none⟩=some (.int .i64 x.a)) W.drew:=⟨f8,x1⟩
  have hcon:Calls Tryz.prog 92 _ W.drew _:=xc0 f.args _ x.a W.drew (hA.later xaK (qzL _ _).drew);obtain⟨u,hu⟩:∃ u,u=(xaM f.args x.a):=⟨_,rfl⟩;rw[← hu] at hcon HV;clear hu
  go_region_held3 (fun w'=>w'.cell? ⟨fb,8,none⟩=some (.slice aa f.args.length ca)/\w'.cell? ⟨w.heap.size,1,none⟩=some (.int .i64 x.a))
   (first | with_reducible exact hS0 | with_reducible exact hS1 | exact⟨(qzI _ _ _ _ (by simp;try omega)).trans ((qzI _ _ _ _ (by simp;try omega)).trans hS1.1),(qzI _ _ _ _ (by simp;try omega)).trans ((qzI _ _ _ _ (by simp;try omega)).trans hS1.2)⟩)
   (first | (go_at_call 92;refine hcon.mono ?_;rintro e w1 ⟨rfl,hb1⟩;have hS1:=And.intro (qzA hb1 hS0.1) (qzA hb1 hS0.2);have hR1:=HR.out.later ((qzL _ _).drew.trans hb1);clear x0 x1 r0 r1 rf sz;obtain⟨-,x0,x1,r0,r1,rf,sz⟩:=id hR1))
  all_goals (
   go_wp2;refine qzK (v:=.tuple #[VV u,.bool true]) ?_ rfl ⟨by rw[HV.out];rfl,((hR1.bel.setCell (by simp) _).setCell (by simp) _)⟩
   simp[results,Tryz.results102,go_sem,r0,r1])
 have h2':(x.op == 2)=false:=by simpa using h2
 by_cases h3:x.op=3
 ·have HV:Hid (xaA m.heap f x=some (xaM f.temps x.a)):=by show _=_;unfold xaA;rw[if_neg h1];rw[if_neg h2];rw[if_pos h3]
  have h3':(x.op == 3)=true:=by simpa using h3
  clear h1 h2 h3;go_wp2;have hS0:(fun w'=>w'.cell? ⟨fb,9,none⟩=some (.slice at' f.temps.length ct)/\w'.cell? ⟨w.heap.size,1,none⟩=some (.int .i64 x.a)) W.drew:=⟨f9,x1⟩
  have hcon:Calls Tryz.prog 92 _ W.drew _:=xc0 f.temps _ x.a W.drew (hT.later xaK (qzL _ _).drew);obtain⟨u,hu⟩:∃ u,u=(xaM f.temps x.a):=⟨_,rfl⟩;rw[← hu] at hcon HV;clear hu
  go_region_held3 (fun w'=>w'.cell? ⟨fb,9,none⟩=some (.slice at' f.temps.length ct)/\w'.cell? ⟨w.heap.size,1,none⟩=some (.int .i64 x.a))
   (first | with_reducible exact hS0 | with_reducible exact hS1 | exact⟨(qzI _ _ _ _ (by simp;try omega)).trans ((qzI _ _ _ _ (by simp;try omega)).trans hS1.1),(qzI _ _ _ _ (by simp;try omega)).trans ((qzI _ _ _ _ (by simp;try omega)).trans hS1.2)⟩)
   (first | (go_at_call 92;refine hcon.mono ?_;rintro e w1 ⟨rfl,hb1⟩;have hS1:=And.intro (qzA hb1 hS0.1) (qzA hb1 hS0.2);have hR1:=HR.out.later ((qzL _ _).drew.trans hb1);clear x0 x1 r0 r1 rf sz;obtain⟨-,x0,x1,r0,r1,rf,sz⟩:=id hR1))
  all_goals (
   go_wp2;refine qzK (v:=.tuple #[VV u,.bool true]) ?_ rfl ⟨by rw[HV.out];rfl,((hR1.bel.setCell (by simp) _).setCell (by simp) _)⟩
   simp[results,Tryz.results102,go_sem,r0,r1])
 have h3':(x.op == 3)=false:=by simpa using h3
 by_cases h4:x.op=4
 ·have HV:Hid (xaA m.heap f x=some (xcV m.heap f.self x.a)):=by show _=_;unfold xaA;rw[if_neg h1];rw[if_neg h2];rw[if_neg h3];rw[if_pos h4]
  have h4':(x.op == 4)=true:=by simpa using h4
  clear h1 h2 h3 h4;go_wp2;have hS0:(fun w'=>w'.cell? ⟨mb,1,none⟩=some (.slice ah m.heap.length ch)/\w'.cell? ⟨fb,6,none⟩=some (.int .i64 f.self.k)/\w'.cell? ⟨fb,7,none⟩=some (.int .i64 f.self.n)/\w'.cell? ⟨w.heap.size,1,none⟩=some (.int .i64 x.a)) W.drew:=⟨m1,f6,f7,x1⟩
  have hcon:Calls Tryz.prog 111 _ W.drew _:=xg7 m.heap _ f.self x.a W.drew (hH.later xaD (qzL _ _).drew);obtain⟨u,hu⟩:∃ u,u=(xcV m.heap f.self x.a):=⟨_,rfl⟩;rw[← hu] at hcon HV;clear hu
  go_region_held3 (fun w'=>w'.cell? ⟨mb,1,none⟩=some (.slice ah m.heap.length ch)/\w'.cell? ⟨fb,6,none⟩=some (.int .i64 f.self.k)/\w'.cell? ⟨fb,7,none⟩=some (.int .i64 f.self.n)/\w'.cell? ⟨w.heap.size,1,none⟩=some (.int .i64 x.a))
   (first | with_reducible exact hS0 | with_reducible exact hS1 | exact⟨(qzI _ _ _ _ (by simp;try omega)).trans ((qzI _ _ _ _ (by simp;try omega)).trans hS1.1),(qzI _ _ _ _ (by simp;try omega)).trans ((qzI _ _ _ _ (by simp;try omega)).trans hS1.2.1),(qzI _ _ _ _ (by simp;try omega)).trans ((qzI _ _ _ _ (by simp;try omega)).trans hS1.2.2.1),(qzI _ _ _ _ (by simp;try omega)).trans ((qzI _ _ _ _ (by simp;try omega)).trans hS1.2.2.2)⟩)
   (first | (go_at_call 111;refine hcon.mono ?_;rintro e w1 ⟨rfl,hb1⟩;have hS1:=And.intro (qzA hb1 hS0.1) (And.intro (qzA hb1 hS0.2.1) (And.intro (qzA hb1 hS0.2.2.1) (qzA hb1 hS0.2.2.2)));have hR1:=HR.out.later ((qzL _ _).drew.trans hb1);clear x0 x1 r0 r1 rf sz;obtain⟨-,x0,x1,r0,r1,rf,sz⟩:=id hR1))
  all_goals (
   go_wp2;refine qzK (v:=.tuple #[VV u,.bool true]) ?_ rfl ⟨by rw[HV.out];rfl,((hR1.bel.setCell (by simp) _).setCell (by simp) _)⟩
   simp[results,Tryz.results102,go_sem,r0,r1])
 have h4':(x.op == 4)=false:=by simpa using h4
 by_cases h5:x.op=5
 ·have HV:Hid (xaA m.heap f x=some ⟨3,x.a⟩):=by show _=_;unfold xaA;rw[if_neg h1];rw[if_neg h2];rw[if_neg h3];rw[if_neg h4];rw[if_pos h5]
  have h5':(x.op == 5)=true:=by simpa using h5
  clear h1 h2 h3 h4 h5;go_wp2;refine qzK (v:=.tuple #[VV ⟨3,x.a⟩,.bool true]) ?_ rfl ⟨by rw[HV.out];rfl,((HR.out.bel.setCell (by simp) _).setCell (by simp) _)⟩
  simp[results,Tryz.results102,go_sem,r0,r1]
 have h5':(x.op == 5)=false:=by simpa using h5
 by_cases h6:x.op=6
 ·have HV:Hid (xaA m.heap f x=some xaU):=by show _=_;unfold xaA;rw[if_neg h1];rw[if_neg h2];rw[if_neg h3];rw[if_neg h4];rw[if_neg h5];rw[if_pos h6]
  have h6':(x.op == 6)=true:=by simpa using h6
  clear h1 h2 h3 h4 h5 h6;go_wp2;refine qzK (v:=.tuple #[VV xaU,.bool true]) ?_ rfl ⟨by rw[HV.out];rfl,((HR.out.bel.setCell (by simp) _).setCell (by simp) _)⟩
  simp[results,Tryz.results102,go_sem,r0,r1]
 have h6':(x.op == 6)=false:=by simpa using h6
 by_cases h7:x.op=7
 ·have HV:Hid (xaA m.heap f x=some ⟨1,0⟩):=by show _=_;unfold xaA;rw[if_neg h1];rw[if_neg h2];rw[if_neg h3];rw[if_neg h4];rw[if_neg h5];rw[if_neg h6];rw[if_pos h7]
  have h7':(x.op == 7)=true:=by simpa using h7
  clear h1 h2 h3 h4 h5 h6 h7;go_wp2_with fail;refine (xcY false _).mono ?_;rintro e w1 ⟨rfl,hb1⟩;have hR1:=HR.out.later hb1;clear x0 x1 r0 r1 rf sz;obtain⟨-,x0,x1,r0,r1,rf,sz⟩:=id hR1;go_wp2;refine qzK (v:=.tuple #[VV ⟨1,0⟩,.bool true]) ?_ rfl ⟨by rw[HV.out];rfl,((hR1.bel.setCell (by simp) _).setCell (by simp) _)⟩
  simp[results,Tryz.results102,go_sem,r0,r1]
 have h7':(x.op == 7)=false:=by simpa using h7
 by_cases h8:x.op=8
 ·have HV:Hid (xaA m.heap f x=some ⟨2,0⟩):=by show _=_;unfold xaA;rw[if_neg h1];rw[if_neg h2];rw[if_neg h3];rw[if_neg h4];rw[if_neg h5];rw[if_neg h6];rw[if_neg h7];rw[if_pos h8]
  have h8':(x.op == 8)=true:=by simpa using h8
  clear h1 h2 h3 h4 h5 h6 h7 h8;go_wp2_with fail;refine (xcY true _).mono ?_;rintro e w1 ⟨rfl,hb1⟩;have hR1:=HR.out.later hb1;clear x0 x1 r0 r1 rf sz;obtain⟨-,x0,x1,r0,r1,rf,sz⟩:=id hR1;go_wp2;refine qzK (v:=.tuple #[VV ⟨2,0⟩,.bool true]) ?_ rfl ⟨by rw[HV.out];rfl,((hR1.bel.setCell (by simp) _).setCell (by simp) _)⟩
  simp[results,Tryz.results102,go_sem,r0,r1]
 have h8':(x.op == 8)=false:=by simpa using h8
 have HV:Hid (xaA m.heap f x=none):=by show _=_;unfold xaA;rw[if_neg h1];rw[if_neg h2];rw[if_neg h3];rw[if_neg h4];rw[if_neg h5];rw[if_neg h6];rw[if_neg h7];rw[if_neg h8]
 clear h1 h2 h3 h4 h5 h6 h7 h8;go_wp2;refine qzK (v:=.tuple #[VV xaU,.bool false]) ?_ rfl ⟨by rw[HV.out];rfl,((HR.out.bel.setCell (by simp) _).setCell (by simp) _)⟩
 simp[results,Tryz.results102,go_sem,r0,r1]
end
end Go.Proofs.YtapbeiccodnniaaGreat
