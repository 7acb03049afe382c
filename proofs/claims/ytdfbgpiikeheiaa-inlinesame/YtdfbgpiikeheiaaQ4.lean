/- A part. -/
import Derived.Test.YtdfbgpiikeheiaaQ3
namespace Go.Proofs.Ytdfbgpiikeheiaa
open Go.ChangeShapes Go.WideShapes Go.ChangeAt Go.RowKit
set_option linter.unusedSimpArgs false
set_option linter.unusedVariables false
set_option maxHeartbeats 8000000
set_option maxRecDepth 8000
section
variable {σ:Type} {p:Mp σ} {T T':Nat->Nat} {w w':World} {mb:Nat} {m m':Mc σ} {calls calls':Int} {hv:Value} {g:Nat} {s:Nat->Nat} {K fb:Nat} {f:Fr} {cv av tv sv kv:Value}
theorem xoJ (h:FrAt T K w fb f cv av tv sv kv)(a:Int)(x:QI):Calls Try.prog 123 #[.pointer (some ⟨fb,0,none⟩),.int .i64 a,IV x] w fun e w'=>e=.returned (SV (f.site a x))/\Below w.heap.size w w':=by
 have hlt:=xal h.box;have hb2:=xbP w (.cells #[.int .i64 x.op,.int .i64 x.a,.int .i64 x.b,.int .i64 x.c,.string x.name] 59) (.cells #[.int .i64 0,.string ⟨#[]⟩,.int .i64 0] 42);have h2:=h.later hb2;have x3:((w.alloc (.cells #[.int .i64 x.op,.int .i64 x.a,.int .i64 x.b,.int .i64 x.c,.string x.name] 59)).alloc (.cells #[.int .i64 0,.string ⟨#[]⟩,.int .i64 0] 42)).cell? ⟨w.heap.size,3,none⟩=some (.int .i64 x.c):=qzA (xak _ _) (xaa _ _ _ _ rfl 3);have r0:((w.alloc (.cells #[.int .i64 x.op,.int .i64 x.a,.int .i64 x.b,.int .i64 x.c,.string x.name] 59)).alloc (.cells #[.int .i64 0,.string ⟨#[]⟩,.int .i64 0] 42)).cell? ⟨w.heap.size+1,0,none⟩=some (.int .i64 0):=xaa _ _ _ _ (by simp) 0
 have r1:((w.alloc (.cells #[.int .i64 x.op,.int .i64 x.a,.int .i64 x.b,.int .i64 x.c,.string x.name] 59)).alloc (.cells #[.int .i64 0,.string ⟨#[]⟩,.int .i64 0] 42)).cell? ⟨w.heap.size+1,1,none⟩=some (.string ⟨#[]⟩):=xaa _ _ _ _ (by simp) 1
 have r2:((w.alloc (.cells #[.int .i64 x.op,.int .i64 x.a,.int .i64 x.b,.int .i64 x.c,.string x.name] 59)).alloc (.cells #[.int .i64 0,.string ⟨#[]⟩,.int .i64 0] 42)).cell? ⟨w.heap.size+1,2,none⟩=some (.int .i64 0):=xaa _ _ _ _ (by simp) 2
 have rf:∀ o,((w.alloc (.cells #[.int .i64 x.op,.int .i64 x.a,.int .i64 x.b,.int .i64 x.c,.string x.name] 59)).alloc (.cells #[.int .i64 0,.string ⟨#[]⟩,.int .i64 0] 42)).frozen? ⟨w.heap.size+1,o,none⟩=false:=fun o=>xap (cur:=#[.int .i64 0,.string ⟨#[]⟩,.int .i64 0]) (t:=42) (by have:=qzJ (w.alloc (.cells #[.int .i64 x.op,.int .i64 x.a,.int .i64 x.b,.int .i64 x.c,.string x.name] 59)) (.cells #[.int .i64 0,.string ⟨#[]⟩,.int .i64 0] 42);simpa using this) o
 clear h;go_enter Try.func123,Try.ntmps123
 go_upto_region 1 with (fail)
 generalize ((w.alloc (.cells #[.int .i64 x.op,.int .i64 x.a,.int .i64 x.b,.int .i64 x.c,.string x.name] 59)).alloc (.cells #[.int .i64 0,.string ⟨#[]⟩,.int .i64 0] 42))=W at *;have c0:W.cell? ⟨fb,0,none⟩=some (.int .i64 f.cls):=by rw[qzB h2.box];rfl
 have c1:W.cell? ⟨fb,1,none⟩=some (.string f.meth.name):=by rw[qzB h2.box];rfl
 have c13:W.cell? ⟨fb,13,none⟩=some (.bool f.fast):=by rw[qzB h2.box];rfl
 have hne:¬ fb=w.heap.size+1:=by omega
 have hne':¬ w.heap.size+1=fb:=by omega
 have HB:=hid hb2;clear h2 hb2
 cases hf:f.fast with
 | false=>
  have HS:Hid (f.site a x=⟨f.cls,f.meth.name,a⟩):=by show _=_;unfold Fr.site;rw[hf];rfl
  rw[hf] at c13;go_wp2
  go_region
  all_goals (
   go_wp2;refine qzK (v:=SV ⟨f.cls,f.meth.name,a⟩) ?_ rfl ⟨by rw[HS.out],(((HB.out.setCell (by simp) _).setCell (by simp) _).setCell (by simp) _).drew⟩
   simp[results,Try.results123,go_sem,r0,r1,r2])
 | true=>
  have HS:Hid (f.site a x=⟨f.cls,f.meth.name,x.c⟩):=by show _=_;unfold Fr.site;rw[hf];rfl
  rw[hf] at c13;go_wp2
  go_region
  all_goals (
   go_wp2;refine qzK (v:=SV ⟨f.cls,f.meth.name,x.c⟩) ?_ rfl ⟨by rw[HS.out],(((HB.out.setCell (by simp) _).setCell (by simp) _).setCell (by simp) _).drew⟩
   simp[results,Try.results123,go_sem,r0,r1,r2])
abbrev FaV (c:Int)(nm:ByteArray)(e t:Int)(kv:Value):Value:=.agg #[.int .i64 c,.string nm,.int .i64 e,.int .i64 t,kv]
theorem xoD (h:w.heap[fb]?=some (FB f cv av tv sv kv))(tv' kv':Value)(t:List QV)(c:List QI):((w.setCell ⟨fb,11,none⟩ kv').setCell ⟨fb,9,none⟩ tv').heap[fb]?=some (FB { f with temps:=t,code:=c } cv av tv' sv kv'):=by
 rw[xag (xag h _)];rfl
theorem xm9 (h:w.heap[fb]?=some (FB f cv av tv sv kv))(tv' kv':Value)(t:List QV)(c:List QI):(((w.setCell ⟨fb,11,none⟩ kv').setCell ⟨fb,9,none⟩ tv').setCell ⟨fb,13,none⟩ (.bool true)).heap[fb]?=some (FB { f with temps:=t,code:=c,fast:=true } cv av tv' sv kv'):=by
 rw[xag (xag (xag h _) _)];rfl
structure FrNew (T:Nat->Nat)(K:Nat)(w:World)(fb:Nat)(f:Fr)(cv av:Value):Prop where
 box:w.heap[fb]?=some (FB f cv av (.slice none 0 0) (.slice none 0 0) (.slice none 0 0))
 tag:T fb=K
 args:xaO (Fx T w) w av f.args
 meth:xaR (Fx T w) w cv f.meth.code
 pos:5<=K
 stack:f.stack=[]
theorem xfl (n:Int):(xaG n).length<=40:=by unfold xaG;simp;omega
theorem FrNew.begun {w1 w2:World}{tb:Nat}{t:List QV}{c:List QI}{fl:Bool}(h:FrNew T K w fb f cv av)(hb:Below w.heap.size w w1)(htb:w1.heap[tb]?=some (.cells (xam t).toArray 27 (0,0)))(hl:t.length<=40)(hg:w.heap.size<=tb)(k:Kp (fun t=>t=1) (fun b=>if b=fb then 1 else 0) w1 w2)(hx:w2.heap[fb]?=some (FB { f with temps:=t,code:=c,fast:=fl } cv av (.slice (some ⟨tb,0,none⟩) t.length t.length) (.slice none 0 0) kv))(hk:xaR (Fx T w) w kv c) :
  ∃ T',Ext T T' w/\FrAt T' K w2 fb { f with temps:=t,code:=c,fast:=fl } cv av (.slice (some ⟨tb,0,none⟩) t.length t.length) (.slice none 0 0) kv/\Kp (fun t=>t=K) T w w2:=by
 have hlt:=xal h.box;have hp:=h.pos;have e:Ext T (xjd T tb (K+1)) w:=xez hg
 have kw:Kp (fun t=>t=K) T w w2:=⟨k.os.trans hb.os,k.tape.trans hb.tape,k.output.trans hb.output,qzD hb.size k.size,fun b hb1 hs=>by
  rw[k.blk b (qzE hb1 hb.size) (by have:b≠fb:=fun e=>hs (by rw[e];exact h.tag);simp[this]),hb.block b hb1]⟩
 refine⟨xjd T tb (K+1),e,⟨hx,by rw[e _ hlt];exact h.tag,h.args.fx xa1 e kw (by omega),⟨tb,rfl,?_,xdI _ _ _,hl⟩,?_,(fun g hg=>by cases hg),?_,hk.fx xa2 e kw (by omega),h.meth.fx xa2 e kw (by omega),hp⟩,kw⟩
 ·exact k.held htb (by
   have:tb≠fb:=by omega
   simp[this])
 ·show ownsAt w2 0 27 2 _ f.stack.length (xam f.stack)
  rw[h.stack]
  exact⟨rfl,Or.inl ⟨rfl,rfl⟩⟩
 ·show f.stack.length<=_
  rw[h.stack];simp
theorem xj2 (h:FrNew T K w fb f cv av)(hf:f.fast=false)(qv:Value)(qc:Int)(qn:ByteArray)(qe qt:Int):Calls Try.prog 83 #[.pointer (some ⟨fb,0,none⟩),FaV qc qn qe qt qv,.bool false] w fun e w'=>e=.returned (.tuple #[])/\∃ T' tv sv kv,Ext T T' w/\FrAt T' K w' fb { f with temps:=xaG f.meth.temps,code:=f.meth.code,fast:=false } cv av tv sv kv/\Kp (fun t=>t=K) T w w':=by
 have hlt:=xal h.box;have hb1:Below w.heap.size w (w.alloc (.cells #[.int .i64 qc,.string qn,.int .i64 qe,.int .i64 qt,qv] 62)).drew:=(xak _ _).drew;have hx:=xad h.box hb1;have hS0:(w.alloc (.cells #[.int .i64 qc,.string qn,.int .i64 qe,.int .i64 qt,qv] 62)).drew.cell? ⟨fb,5,none⟩=some cv/\(w.alloc (.cells #[.int .i64 qc,.string qn,.int .i64 qe,.int .i64 qt,qv] 62)).drew.cell? ⟨fb,3,none⟩=some (.int .i64 f.meth.temps):=⟨by rw[qzB hx];rfl,by rw[qzB hx];rfl⟩
 obtain⟨a,cap,rfl,-⟩:=id h.meth;have H:=hid h;have HX:=hid hx;have HB:=hid hb1;have HFF:Hid (∀ t c,({ f with temps:=t,code:=c }:Fr)={ f with temps:=t,code:=c,fast:=false }):=fun t c=>by rw[hf]
 clear h hx hb1 hf;go_enter Try.func83,Try.ntmps83
 go_upto_region 1 with (fail)
 generalize (w.alloc (.cells #[.int .i64 qc,.string qn,.int .i64 qe,.int .i64 qt,qv] 62))=W at *;go_wp2
 go_region_held3 (fun w'=>w'.cell? ⟨fb,5,none⟩=some (.slice a f.meth.code.length cap)/\w'.cell? ⟨fb,3,none⟩=some (.int .i64 f.meth.temps))
  (first | with_reducible exact hS0 | with_reducible exact hS1 | exact⟨(qzM _ _ _ _ (by simp)).trans hS1.1,(qzM _ _ _ _ (by simp)).trans hS1.2⟩ | exact⟨(qzM _ _ _ _ (by simp)).trans ((qzM _ _ _ _ (by simp)).trans hS1.1),(qzM _ _ _ _ (by simp)).trans ((qzM _ _ _ _ (by simp)).trans hS1.2)⟩)
  (first | (go_at_call 101;refine (xfW f.meth.temps _).mono ?_;rintro e w1 ⟨tb,rfl,htb,hgt,hb1⟩;have hS1:=And.intro (qzA hb1 hS0.1) (qzA hb1 hS0.2);have hx1:=xad HX.out hb1;have df:=xap hx1;have d11:w1.cell? ⟨fb,11,none⟩=some (.slice none 0 0):=(by rw[qzB hx1];rfl);have d9:w1.cell? ⟨fb,9,none⟩=some (.slice none 0 0):=(by rw[qzB hx1];rfl);have HX1:=hid hx1;clear hx1))
 all_goals (
  go_wp2;have k:Kp (fun t=>t=1) (fun b=>if b=fb then 1 else 0) w1 ((w1.setCell ⟨fb,11,none⟩ (.slice a f.meth.code.length cap)).setCell ⟨fb,9,none⟩ (.slice (some ⟨tb,0,none⟩) (xaG f.meth.temps).length (xaG f.meth.temps).length)):=((Kp.refl _ _ _).set (fun _=>by simp) _ _).set (fun _=>by simp) _ _
  have hx2:=xoD HX1.out (.slice (some ⟨tb,0,none⟩) (xaG f.meth.temps).length (xaG f.meth.temps).length) (.slice a f.meth.code.length cap) (xaG f.meth.temps) f.meth.code;rw[HFF.out (xaG f.meth.temps) f.meth.code] at hx2;obtain⟨T',q1,q2,q3⟩:=H.out.begun (xaf HB.out hb1) htb (xfl _) (qzD HB.out.size hgt) k hx2 H.out.meth
  exact bodyPost_end (v:=.tuple #[]) (by simp[results,Try.results83,go_sem]) rfl ⟨rfl,T',_,_,_,q1,q2,q3⟩)
theorem xkV (h:FrNew T K w fb f cv av)(qv:Value)(qc:Int)(qn:ByteArray)(qe qt:Int)(code:List QI)(hq:xaR (Fx T w) w qv code):Calls Try.prog 83 #[.pointer (some ⟨fb,0,none⟩),FaV qc qn qe qt qv,.bool true] w fun e w'=>e=.returned (.tuple #[])/\∃ T' tv sv kv,Ext T T' w/\FrAt T' K w' fb { f with temps:=xaG qt,code:=code,fast:=true } cv av tv sv kv/\Kp (fun t=>t=K) T w w':=by
 have hlt:=xal h.box;have hb1:Below w.heap.size w (w.alloc (.cells #[.int .i64 qc,.string qn,.int .i64 qe,.int .i64 qt,qv] 62)).drew:=(xak _ _).drew;have hx:=xad h.box hb1;have hS0:(w.alloc (.cells #[.int .i64 qc,.string qn,.int .i64 qe,.int .i64 qt,qv] 62)).drew.cell? ⟨w.heap.size,4,none⟩=some qv/\(w.alloc (.cells #[.int .i64 qc,.string qn,.int .i64 qe,.int .i64 qt,qv] 62)).drew.cell? ⟨w.heap.size,3,none⟩=some (.int .i64 qt):=⟨xaa w #[.int .i64 qc,.string qn,.int .i64 qe,.int .i64 qt,qv] 62 _ rfl 4,xaa w #[.int .i64 qc,.string qn,.int .i64 qe,.int .i64 qt,qv] 62 _ rfl 3⟩;have H:=hid h;have HX:=hid hx
 have HB:=hid hb1;have HQ:=hid hq;have hne:¬ w.heap.size=fb:=by omega
 have hne':¬ fb=w.heap.size:=by omega
 obtain⟨a,cap,rfl,-⟩:=id hq;clear h hx hb1 hq;go_enter Try.func83,Try.ntmps83
 go_upto_region 1 with (fail)
 generalize (w.alloc (.cells #[.int .i64 qc,.string qn,.int .i64 qe,.int .i64 qt,.slice a code.length cap] 62))=W at *;go_wp2
 go_region_held3 (fun w'=>w'.cell? ⟨w.heap.size,4,none⟩=some (.slice a code.length cap)/\w'.cell? ⟨w.heap.size,3,none⟩=some (.int .i64 qt))
  (first | with_reducible exact hS0 | with_reducible exact hS1 | exact⟨(qzI _ _ _ _ (by simp;omega)).trans hS1.1,(qzI _ _ _ _ (by simp;omega)).trans hS1.2⟩ | exact⟨(qzI _ _ _ _ (by simp;omega)).trans ((qzI _ _ _ _ (by simp;omega)).trans hS1.1),(qzI _ _ _ _ (by simp;omega)).trans ((qzI _ _ _ _ (by simp;omega)).trans hS1.2)⟩ | exact⟨(qzI _ _ _ _ (by simp;omega)).trans ((qzI _ _ _ _ (by simp;omega)).trans ((qzI _ _ _ _ (by simp;omega)).trans hS1.1)),(qzI _ _ _ _ (by simp;omega)).trans ((qzI _ _ _ _ (by simp;omega)).trans ((qzI _ _ _ _ (by simp;omega)).trans hS1.2))⟩)
  (first | (go_at_call 101;refine (xfW qt _).mono ?_;rintro e w1 ⟨tb,rfl,htb,hgt,hb1⟩;have hS1:=And.intro (qzA hb1 hS0.1) (qzA hb1 hS0.2);have hx1:=xad HX.out hb1;have df:=xap hx1;have d11:w1.cell? ⟨fb,11,none⟩=some (.slice none 0 0):=(by rw[qzB hx1];rfl);have d9:w1.cell? ⟨fb,9,none⟩=some (.slice none 0 0):=(by rw[qzB hx1];rfl);have d13:w1.cell? ⟨fb,13,none⟩=some (.bool f.fast):=(by rw[qzB hx1];rfl);have HX1:=hid hx1;clear hx1))
 all_goals (
  go_wp2;have k:Kp (fun t=>t=1) (fun b=>if b=fb then 1 else 0) w1 (((w1.setCell ⟨fb,11,none⟩ (.slice a code.length cap)).setCell ⟨fb,9,none⟩ (.slice (some ⟨tb,0,none⟩) (xaG qt).length (xaG qt).length)).setCell ⟨fb,13,none⟩ (.bool true)):=(((Kp.refl _ _ _).set (fun _=>by simp) _ _).set (fun _=>by simp) _ _).set (fun _=>by simp) _ _
  have hx2:=xm9 HX1.out (.slice (some ⟨tb,0,none⟩) (xaG qt).length (xaG qt).length) (.slice a code.length cap) (xaG qt) code;obtain⟨T',q1,q2,q3⟩:=H.out.begun (xaf HB.out hb1) htb (xfl _) (qzD HB.out.size hgt) k hx2 HQ.out
  exact qzK (v:=.tuple #[]) (by simp[results,Try.results83,go_sem]) rfl ⟨rfl,T',_,_,_,q1,q2,q3⟩)
end
section
variable {σ:Type} {p:Mp σ} {T T':Nat->Nat} {w w':World} {mb:Nat} {m m':Mc σ} {calls calls':Int} {hv:Value} {g:Nat} {s:Nat->Nat} {K fb:Nat} {f:Fr} {cv av tv sv kv:Value}
structure PuR (w:World)(x:QI)(w':World):Prop where
 bel:Below w.heap.size w w'
 x0:w'.cell? ⟨w.heap.size,0,none⟩=some (.int .i64 x.op)
 x1:w'.cell? ⟨w.heap.size,1,none⟩=some (.int .i64 x.a)
 r0:w'.cell? ⟨w.heap.size+1,0,none⟩=some (.int .i64 0)
 r1:w'.cell? ⟨w.heap.size+1,1,none⟩=some (.int .i64 0)
 rf:∀ o,w'.frozen? ⟨w.heap.size+1,o,none⟩=false
 sz:w.heap.size+2<=w'.heap.size
theorem PuR.later {w:World}{x:QI}{w' w'':World}(h:PuR w x w')(hb:Below w'.heap.size w' w''):PuR w x w'':=
 ⟨xaf h.bel hb,qzA hb h.x0,qzA hb h.x1,qzA hb h.r0,qzA hb h.r1,fun o=>(hb.frozen (p:=⟨w.heap.size+1,o,none⟩) (by have:=h.sz;simp only;omega)).trans (h.rf o),qzD h.sz hb.size⟩
theorem xq1 (w:World)(x:QI):PuR w x ((w.alloc (.cells #[.int .i64 x.op,.int .i64 x.a,.int .i64 x.b,.int .i64 x.c,.string x.name] 59)).alloc (.cells #[.int .i64 0,.int .i64 0] 27)):=by
 refine⟨xbP _ _ _,qzA (xak _ _) (xaa _ _ _ _ rfl 0),qzA (xak _ _) (xaa _ _ _ _ rfl 1),xaa _ _ _ _ (by simp) 0,xaa _ _ _ _ (by simp) 1,fun o=>xap (cur:=#[.int .i64 0,.int .i64 0]) (t:=27) ?_ o,by simp⟩
 have:=qzJ (w.alloc (.cells #[.int .i64 x.op,.int .i64 x.a,.int .i64 x.b,.int .i64 x.c,.string x.name] 59)) (.cells #[.int .i64 0,.int .i64 0] 27)
 simpa using this
theorem FrAt.c (h:FrAt T K w fb f cv av tv sv kv):w.cell? ⟨fb,6,none⟩=some (.int .i64 f.self.k)/\w.cell? ⟨fb,7,none⟩=some (.int .i64 f.self.n)/\w.cell? ⟨fb,8,none⟩=some av/\w.cell? ⟨fb,9,none⟩=some tv:=by
 refine⟨?_,?_,?_,?_⟩<;>(rw[qzB h.box];rfl)
theorem FrAt.tempsV (h:FrAt T K w fb f cv av tv sv kv):xaO (fun _=>True) w tv f.temps:=by
 obtain⟨tb,rfl,h1,-,h2⟩:=h.temps
 exact xhM h1 trivial (by omega)
theorem xlC (h:MacAt p T w mb m calls hv g s)(hF:FrAt T K w fb f cv av tv sv kv)(x:QI):Calls Try.prog 110 #[.pointer (some ⟨mb,0,none⟩),.pointer (some ⟨fb,0,none⟩),IV x] w fun e w'=>e=.returned (.tuple #[VV ((xao m.heap f x).getD xaU),.bool (xao m.heap f x).isSome])/\Below w.heap.size w w':=by
 have hlf:=xal hF.box;have hlm:=xal h.box;have hR:=xq1 w x;have hM:=h.later hR.bel;have hFr:=hF.later hR.bel;clear h hF;go_enter Try.func110,Try.ntmps110
 go_upto_region 1 with (fail)
 generalize ((w.alloc (.cells #[.int .i64 x.op,.int .i64 x.a,.int .i64 x.b,.int .i64 x.c,.string x.name] 59)).alloc (.cells #[.int .i64 0,.int .i64 0] 27))=W at *;obtain⟨f6,f7,f8,f9⟩:=hFr.c;have m1:=hM.c1;have hA:=hFr.args;have hT:=hFr.tempsV;have hH:=hM.heap.heap;obtain⟨-,x0,x1,r0,r1,rf,sz⟩:=id hR;obtain⟨aa,ca,rfl,-⟩:=id hA;obtain⟨at',ct,rfl,-⟩:=id hT;obtain⟨ah,ch,rfl,-⟩:=id hH;have nf:¬ fb=w.heap.size+1:=by omega
 have nf':¬ w.heap.size+1=fb:=by omega
 have nm:¬ mb=w.heap.size+1:=by omega
 have nm':¬ w.heap.size+1=mb:=by omega
 have HR:=hid hR;clear hFr hM hR
 by_cases h1:x.op=1
 ·have HV:Hid (xao m.heap f x=some f.self):=by show _=_;unfold xao;rw[if_pos h1]
  have h1':(x.op == 1)=true:=by simpa using h1
  clear h1;go_wp2;refine qzK (v:=.tuple #[VV f.self,.bool true]) ?_ rfl ⟨by rw[HV.out];rfl,((HR.out.bel.setCell (by simp) _).setCell (by simp) _)⟩
  simp[results,Try.results110,go_sem,r0,r1]
 have h1':(x.op == 1)=false:=by simpa using h1
 by_cases h2:x.op=2
 ·have HV:Hid (xao m.heap f x=some (xaM f.args x.a)):=by show _=_;unfold xao;rw[if_neg h1];rw[if_pos h2]
  have h2':(x.op == 2)=true:=by simpa using h2
  clear h1 h2;go_wp2;have hS0:(fun w'=>w'.cell? ⟨fb,8,none⟩=some (.slice aa f.args.length ca)/\w'.cell? ⟨w.heap.size,1,none⟩=some (.int .i64 x.a)) W.drew:=⟨f8,x1⟩
  have hcon:Calls Try.prog 100 _ W.drew _:=xc7 f.args _ x.a W.drew (hA.later xa1 (qzL _ _).drew);obtain⟨u,hu⟩:∃ u,u=(xaM f.args x.a):=⟨_,rfl⟩;rw[← hu] at hcon HV;clear hu
  go_region_held3 (fun w'=>w'.cell? ⟨fb,8,none⟩=some (.slice aa f.args.length ca)/\w'.cell? ⟨w.heap.size,1,none⟩=some (.int .i64 x.a))
   (first | with_reducible exact hS0 | with_reducible exact hS1 | exact⟨(qzI _ _ _ _ (by simp;try omega)).trans ((qzI _ _ _ _ (by simp;try omega)).trans hS1.1),(qzI _ _ _ _ (by simp;try omega)).trans ((qzI _ _ _ _ (by simp;try omega)).trans hS1.2)⟩)
   (first | (go_at_call 100;refine hcon.mono ?_;rintro e w1 ⟨rfl,hb1⟩;have hS1:=And.intro (qzA hb1 hS0.1) (qzA hb1 hS0.2);have hR1:=HR.out.later ((qzL _ _).drew.trans hb1);clear x0 x1 r0 r1 rf sz;obtain⟨-,x0,x1,r0,r1,rf,sz⟩:=id hR1))
  all_goals (
   go_wp2;refine qzK (v:=.tuple #[VV u,.bool true]) ?_ rfl ⟨by rw[HV.out];rfl,((hR1.bel.setCell (by simp) _).setCell (by simp) _)⟩
   simp[results,Try.results110,go_sem,r0,r1])
 have h2':(x.op == 2)=false:=by simpa using h2
 by_cases h3:x.op=3
 ·have HV:Hid (xao m.heap f x=some (xaM f.temps x.a)):=by show _=_;unfold xao;rw[if_neg h1];rw[if_neg h2];rw[if_pos h3]
  have h3':(x.op == 3)=true:=by simpa using h3
  clear h1 h2 h3;go_wp2;have hS0:(fun w'=>w'.cell? ⟨fb,9,none⟩=some (.slice at' f.temps.length ct)/\w'.cell? ⟨w.heap.size,1,none⟩=some (.int .i64 x.a)) W.drew:=⟨f9,x1⟩
  have hcon:Calls Try.prog 100 _ W.drew _:=xc7 f.temps _ x.a W.drew (hT.later xa1 (qzL _ _).drew);obtain⟨u,hu⟩:∃ u,u=(xaM f.temps x.a):=⟨_,rfl⟩;rw[← hu] at hcon HV;clear hu
  go_region_held3 (fun w'=>w'.cell? ⟨fb,9,none⟩=some (.slice at' f.temps.length ct)/\w'.cell? ⟨w.heap.size,1,none⟩=some (.int .i64 x.a))
   (first | with_reducible exact hS0 | with_reducible exact hS1 | exact⟨(qzI _ _ _ _ (by simp;try omega)).trans ((qzI _ _ _ _ (by simp;try omega)).trans hS1.1),(qzI _ _ _ _ (by simp;try omega)).trans ((qzI _ _ _ _ (by simp;try omega)).trans hS1.2)⟩)
   (first | (go_at_call 100;refine hcon.mono ?_;rintro e w1 ⟨rfl,hb1⟩;have hS1:=And.intro (qzA hb1 hS0.1) (qzA hb1 hS0.2);have hR1:=HR.out.later ((qzL _ _).drew.trans hb1);clear x0 x1 r0 r1 rf sz;obtain⟨-,x0,x1,r0,r1,rf,sz⟩:=id hR1))
  all_goals (
   go_wp2;refine qzK (v:=.tuple #[VV u,.bool true]) ?_ rfl ⟨by rw[HV.out];rfl,((hR1.bel.setCell (by simp) _).setCell (by simp) _)⟩
   simp[results,Try.results110,go_sem,r0,r1])
 have h3':(x.op == 3)=false:=by simpa using h3
 by_cases h4:x.op=4
 ·have HV:Hid (xao m.heap f x=some (xcF m.heap f.self x.a)):=by show _=_;unfold xao;rw[if_neg h1];rw[if_neg h2];rw[if_neg h3];rw[if_pos h4]
  have h4':(x.op == 4)=true:=by simpa using h4
  clear h1 h2 h3 h4;go_wp2;have hS0:(fun w'=>w'.cell? ⟨mb,1,none⟩=some (.slice ah m.heap.length ch)/\w'.cell? ⟨fb,6,none⟩=some (.int .i64 f.self.k)/\w'.cell? ⟨fb,7,none⟩=some (.int .i64 f.self.n)/\w'.cell? ⟨w.heap.size,1,none⟩=some (.int .i64 x.a)) W.drew:=⟨m1,f6,f7,x1⟩
  have hcon:Calls Try.prog 119 _ W.drew _:=xiJ m.heap _ f.self x.a W.drew (hH.later xaE (qzL _ _).drew);obtain⟨u,hu⟩:∃ u,u=(xcF m.heap f.self x.a):=⟨_,rfl⟩;rw[← hu] at hcon HV;clear hu
  go_region_held3 (fun w'=>w'.cell? ⟨mb,1,none⟩=some (.slice ah m.heap.length ch)/\w'.cell? ⟨fb,6,none⟩=some (.int .i64 f.self.k)/\w'.cell? ⟨fb,7,none⟩=some (.int .i64 f.self.n)/\w'.cell? ⟨w.heap.size,1,none⟩=some (.int .i64 x.a))
   (first | with_reducible exact hS0 | with_reducible exact hS1 | exact⟨(qzI _ _ _ _ (by simp;try omega)).trans ((qzI _ _ _ _ (by simp;try omega)).trans hS1.1),(qzI _ _ _ _ (by simp;try omega)).trans ((qzI _ _ _ _ (by simp;try omega)).trans hS1.2.1),(qzI _ _ _ _ (by simp;try omega)).trans ((qzI _ _ _ _ (by simp;try omega)).trans hS1.2.2.1),(qzI _ _ _ _ (by simp;try omega)).trans ((qzI _ _ _ _ (by simp;try omega)).trans hS1.2.2.2)⟩)
   (first | (go_at_call 119;refine hcon.mono ?_;rintro e w1 ⟨rfl,hb1⟩;have hS1:=And.intro (qzA hb1 hS0.1) (And.intro (qzA hb1 hS0.2.1) (And.intro (qzA hb1 hS0.2.2.1) (qzA hb1 hS0.2.2.2)));have hR1:=HR.out.later ((qzL _ _).drew.trans hb1);clear x0 x1 r0 r1 rf sz;obtain⟨-,x0,x1,r0,r1,rf,sz⟩:=id hR1))
  all_goals (
   go_wp2;refine qzK (v:=.tuple #[VV u,.bool true]) ?_ rfl ⟨by rw[HV.out];rfl,((hR1.bel.setCell (by simp) _).setCell (by simp) _)⟩
   simp[results,Try.results110,go_sem,r0,r1])
 have h4':(x.op == 4)=false:=by simpa using h4
 by_cases h5:x.op=5
 ·have HV:Hid (xao m.heap f x=some ⟨3,x.a⟩):=by show _=_;unfold xao;rw[if_neg h1];rw[if_neg h2];rw[if_neg h3];rw[if_neg h4];rw[if_pos h5]
  have h5':(x.op == 5)=true:=by simpa using h5
  clear h1 h2 h3 h4 h5;go_wp2;refine qzK (v:=.tuple #[VV ⟨3,x.a⟩,.bool true]) ?_ rfl ⟨by rw[HV.out];rfl,((HR.out.bel.setCell (by simp) _).setCell (by simp) _)⟩
  simp[results,Try.results110,go_sem,r0,r1]
 have h5':(x.op == 5)=false:=by simpa using h5
 by_cases h6:x.op=6
 ·have HV:Hid (xao m.heap f x=some xaU):=by show _=_;unfold xao;rw[if_neg h1];rw[if_neg h2];rw[if_neg h3];rw[if_neg h4];rw[if_neg h5];rw[if_pos h6]
  have h6':(x.op == 6)=true:=by simpa using h6
  clear h1 h2 h3 h4 h5 h6;go_wp2;refine qzK (v:=.tuple #[VV xaU,.bool true]) ?_ rfl ⟨by rw[HV.out];rfl,((HR.out.bel.setCell (by simp) _).setCell (by simp) _)⟩
  simp[results,Try.results110,go_sem,r0,r1]
 have h6':(x.op == 6)=false:=by simpa using h6
 by_cases h7:x.op=7
 ·have HV:Hid (xao m.heap f x=some ⟨1,0⟩):=by show _=_;unfold xao;rw[if_neg h1];rw[if_neg h2];rw[if_neg h3];rw[if_neg h4];rw[if_neg h5];rw[if_neg h6];rw[if_pos h7]
  have h7':(x.op == 7)=true:=by simpa using h7
  clear h1 h2 h3 h4 h5 h6 h7;go_wp2_with fail;refine (xde false _).mono ?_;rintro e w1 ⟨rfl,hb1⟩;have hR1:=HR.out.later hb1;clear x0 x1 r0 r1 rf sz;obtain⟨-,x0,x1,r0,r1,rf,sz⟩:=id hR1;go_wp2;refine qzK (v:=.tuple #[VV ⟨1,0⟩,.bool true]) ?_ rfl ⟨by rw[HV.out];rfl,((hR1.bel.setCell (by simp) _).setCell (by simp) _)⟩
  simp[results,Try.results110,go_sem,r0,r1]
 have h7':(x.op == 7)=false:=by simpa using h7
 by_cases h8:x.op=8
 ·have HV:Hid (xao m.heap f x=some ⟨2,0⟩):=by show _=_;unfold xao;rw[if_neg h1];rw[if_neg h2];rw[if_neg h3];rw[if_neg h4];rw[if_neg h5];rw[if_neg h6];rw[if_neg h7];rw[if_pos h8]
  have h8':(x.op == 8)=true:=by simpa using h8
  clear h1 h2 h3 h4 h5 h6 h7 h8;go_wp2_with fail;refine (xde true _).mono ?_;rintro e w1 ⟨rfl,hb1⟩;have hR1:=HR.out.later hb1;clear x0 x1 r0 r1 rf sz;obtain⟨-,x0,x1,r0,r1,rf,sz⟩:=id hR1;go_wp2;refine qzK (v:=.tuple #[VV ⟨2,0⟩,.bool true]) ?_ rfl ⟨by rw[HV.out];rfl,((hR1.bel.setCell (by simp) _).setCell (by simp) _)⟩
  simp[results,Try.results110,go_sem,r0,r1]
 have h8':(x.op == 8)=false:=by simpa using h8
 have HV:Hid (xao m.heap f x=none):=by show _=_;unfold xao;rw[if_neg h1];rw[if_neg h2];rw[if_neg h3];rw[if_neg h4];rw[if_neg h5];rw[if_neg h6];rw[if_neg h7];rw[if_neg h8]
 clear h1 h2 h3 h4 h5 h6 h7 h8;go_wp2;refine qzK (v:=.tuple #[VV xaU,.bool false]) ?_ rfl ⟨by rw[HV.out];rfl,((HR.out.bel.setCell (by simp) _).setCell (by simp) _)⟩
 simp[results,Try.results110,go_sem,r0,r1]
end
section
variable {σ:Type} {p:Mp σ} {T T':Nat->Nat} {w w':World} {mb:Nat} {m m':Mc σ} {calls calls':Int} {hv:Value} {g:Nat} {s:Nat->Nat} {K fb:Nat} {f:Fr} {cv av tv sv kv:Value}
theorem xqb (v:QV)(w:World):(Instr.field 27 (VV v) 0).run Try.prog w=.ok (.int .i64 v.k) w:=by
 obtain⟨i0,hi,hz0,hz1,hz2⟩:=xa8 xj0
 simp[Instr.field,run_underlying Try.underlying27,part,sizeOf,typeInfo,hi,hz1,asAgg]
theorem xk3 (h:MacAt p T w mb m calls hv g s)(hF:FrAt T K w fb f cv av tv sv kv)(a b:Int)(ht:0<=m.tz/\m.tz<=300):Calls Try.prog 117 #[.pointer (some ⟨mb,0,none⟩),.pointer (some ⟨fb,0,none⟩),.int .i64 a,.int .i64 b] w fun e w'=>e=.returned (.int .i64 (xbz m f a b).2.2)/\MacAt p T w' mb (xbz m f a b).1 calls hv g s/\((xbz m f a b).2.2=0->∃ sv',FrAt T K w' fb (xbz m f a b).2.1 cv av tv sv' kv)/\Kp (fun t=>t=1\/t=K) T w w':=by
 have hp:=hF.pos;have hfl:=xqb;go_enter Try.func117,Try.ntmps117;go_wp2_with fail;refine (xen hF).mono ?_;rintro e w1 ⟨rfl,⟨sv1,hF1⟩,hK1⟩;have hM1:=h.keep (.refl _ _) hK1 (by omega) (by omega) (by omega)
 have HK:=hid hK1;clear h hF hK1
 by_cases h2:f.top.k=2
 ·have HE:Hid (xbz m f a b=(m,f.pop,0)):=by show _=_;unfold xbz;rw[if_pos h2]
  have h2':(f.top.k == 2)=true:=by simpa using h2
  have HM:=hid hM1;have HF:=hid hF1;clear hM1 hF1;go_wp2
  go_ret
  rw[HE.out]
  exact⟨rfl,HM.out,fun _=>⟨_,HF.out⟩,HK.out.mono fun t h=>Or.inr h⟩
 have h2':(f.top.k == 2)=false:=by simpa using h2
 by_cases h1:f.top.k=1
 ·have HE:Hid (xbz m f a b=xaV m f.pop a b):=by show _=_;unfold xbz;rw[if_neg h2,if_pos h1]
  have h1':(f.top.k == 1)=true:=by simpa using h1
  go_wp2_with fail;refine (xkz hM1 hF1 a b ht).mono ?_;rintro e w2 ⟨rfl,hM2,hF2,hK2⟩;have HM:=hid hM2;have HF:=hid hF2;have HK2:=hid hK2;clear hM1 hF1 hM2 hF2 hK2;go_wp2
  go_ret
  rw[HE.out]
  exact⟨rfl,HM.out,fun _=>⟨_,HF.out⟩,(HK.out.mono fun t h=>Or.inr h).trans (.refl _ _) HK2.out⟩
 have h1':(f.top.k == 1)=false:=by simpa using h1
 have HE:Hid (xbz m f a b=(m,f,11)):=by show _=_;unfold xbz;rw[if_neg h2,if_neg h1]
 have HM:=hid hM1;clear hM1 hF1;go_wp2
 go_ret
 rw[HE.out]
 exact⟨rfl,HM.out,fun h=>absurd h (by simp),HK.out.mono fun t h=>Or.inr h⟩
theorem xfS {ops:Array Oper}{o:Oper}{a:Act}{w:World}{K:Act->World->Prop}{Q:Exit->Act->World->Prop}{E:Prop}(hgd:o.guard=none)(s x:Operand)
  (hop:o.op=Op.call { callee:=Callee.builtin Builtin.append,args:=#[s,x],argTypes:=#[23,23] }) (g n:Nat) (hs:a.eval s=.slice (some ⟨g,0,none⟩) n n) (Bb:Nat) (hx:a.eval x=.slice (some ⟨Bb,0,none⟩) 1 1)
  (cur:Array Value) (hcur:w.heap[g]?=some (.cells cur 82 (0,0))) (hlen:cur.size=n*2) (x0 x1:Value) (h0:w.cell? ⟨Bb,0,none⟩=some x0) (h1:w.cell? ⟨Bb,1,none⟩=some x1) (o0:x0.oneCell'=true) (o1:x1.oneCell'=true) (hn:n<1000)
  (hK:∀ g' cap cur' w',n+1<=cap->cap<=maxLen->w'.heap[g']?=some (.cells cur' 82 (0,0))->cur'.toList.take ((n+1)*2)=cur.toList++[x0,x1]->w.heap.size<=g'->Below w.heap.size w w'->K (a.put o.dst (.slice (some ⟨g',0,none⟩) (n+1) cap)) w') :
  if Region.wanted o (yielded ops a.tmps)=true then Oper.wp Try.prog o a w K Q else E:=by
 obtain⟨i0,hi,hz0,hz1,hz2⟩:=xa8 xr7
 refine step_append_grows hgd s x 23 hop 82 i0 _ 2 32 Try.underlying23 hi hz0 hz1 hz2 rfl (by decide) (some ⟨g,0,none⟩) n n cur.toList hs (fun h=>by cases h) (by simpa using hlen)
  (fun b hb j u hu=>by cases hb;rw[Addr.add_lit,Nat.zero_add,qzB hcur];simpa using hu) ⟨Bb,0,none⟩ 1 1 [x0,x1] hx rfl
  (fun j u hu=>by
   rw[Addr.add_lit,Nat.zero_add]
   match j,hu with
   | 0,hu=>simp at hu;rw[← hu];exact h0
   | 1,hu=>simp at hu;rw[← hu];exact h1)
  (fun u hu=>by simp at hu;rcases hu with h | h<;>rw[h]<;>assumption) (by omega) (by unfold maxLen;omega) (by omega) ?_
 intro v' w' hown hgr;obtain⟨-,h | ⟨g',cap,cur',rfl,hb,hh,hc1,hc2,-,hc4⟩⟩:=hown
 ·omega
 ·exact hK g' cap cur' w' hc1 hc2 hh hc4 hb ((qzL _ _).grown hgr (qzC _) (fun k hk=>by cases hk))
structure NwS (w:World)(k:Nat)(w':World):Prop where
 bel:Below w.heap.size w w'
 c0:∃ u,w'.cell? ⟨w.heap.size,0,none⟩=some u
 c1:∃ u,w'.cell? ⟨w.heap.size,1,none⟩=some u
 fr:∀ o,w'.frozen? ⟨w.heap.size,o,none⟩=false
 vals:w'.heap[w.heap.size+1]?=some (.cells (xam (List.replicate k xaU)).toArray 27 (0,0))
theorem NwS.later {w w' w1:World}{k:Nat}(h:NwS w k w')(hb:Below w'.heap.size w' w1):NwS w k w1:=
 have h0:=h.c0;have h1:=h.c1
 ⟨xaf h.bel hb,h0.elim fun u hu=>⟨u,qzA hb hu⟩,h1.elim fun u hu=>⟨u,qzA hb hu⟩,fun o=>(hb.frozen (p:=⟨w.heap.size,o,none⟩) (h0.elim fun u hu=>World.block_lt_of_cell? w' ⟨w.heap.size,0,none⟩ hu)).trans (h.fr o),xad h.vals hb⟩
theorem xeU {w:World}{a b:Addr}{x:Value}(h:∃ u,w.cell? a=some u):∃ u,(w.setCell b x).cell? a=some u:=by
 obtain⟨u,h⟩:=h;obtain⟨v,hv⟩:=cell?_setCell_some (w:=w) (p:=b) (x:=x) (q:=a) (v:=u) h
 exact⟨v,hv⟩
theorem NwS.set {w w':World}{k:Nat}(h:NwS w k w')(o:Nat)(u:Value):NwS w k (w'.setCell ⟨w.heap.size,o,none⟩ u):=
 ⟨h.bel.setCell (qzC _) _,xeU h.c0,xeU h.c1,fun o'=>by rw[World.frozen?_setCell];exact h.fr o',by rw[xac (by omega)];exact h.vals⟩
theorem xrs {w w':World}{k b:Nat}{x y:Value}(hb:w.heap.size<b)(h:w'.cell? ⟨b,0,none⟩=some x/\w'.cell? ⟨b,1,none⟩=some y/\NwS w k w')(o o':Nat)(u u':Value) :
  ((w'.setCell ⟨w.heap.size,o,none⟩ u).setCell ⟨w.heap.size,o',none⟩ u').cell? ⟨b,0,none⟩=some x/\((w'.setCell ⟨w.heap.size,o,none⟩ u).setCell ⟨w.heap.size,o',none⟩ u').cell? ⟨b,1,none⟩=some y/\NwS w k ((w'.setCell ⟨w.heap.size,o,none⟩ u).setCell ⟨w.heap.size,o',none⟩ u'):=
 ⟨(qzI _ _ _ _ (by simp;omega)).trans ((qzI _ _ _ _ (by simp;omega)).trans h.1),(qzI _ _ _ _ (by simp;omega)).trans ((qzI _ _ _ _ (by simp;omega)).trans h.2.1),(h.2.2.set _ _).set _ _⟩
theorem xqQ {w w' w1:World}{k:Nat}{a b:Addr}{x y:Value}(h:w'.cell? a=some x/\w'.cell? b=some y/\NwS w k w')(hb:Below w'.heap.size w' w1):w1.cell? a=some x/\w1.cell? b=some y/\NwS w k w1:=⟨qzA hb h.1,qzA hb h.2.1,h.2.2.later hb⟩
theorem xpU {w1 wx w2:World}{hs:List QO}{cur cur':Array Value}{c:Int}{k g g' cap vb lo:Nat}{s:Nat->Nat}(hR:HRow w1 g s hs hs.length)(hcur:w1.heap[g]?=some (.cells cur 82 (0,0)))(hlen:cur.size=hs.length*2)(hx:Below w1.heap.size w1 wx)(hb2:Below wx.heap.size wx w2)(hv:w2.heap[vb]?=some (.cells (xam (List.replicate k xaU)).toArray 27 (0,0)))
  (h1:hs.length+1<=cap) (h2:cap<=maxLen) (hh:w2.heap[g']?=some (.cells cur' 82 (0,0))) (hcl:cur'.toList.take ((hs.length+1)*2)=cur.toList++[.int .i64 c,.slice (some ⟨vb,0,none⟩) k k]) (hg':wx.heap.size<=g') (hvg:vb<g) (hl:hs.length<1000) (hk:k<=2147483647) (hlo:lo<=vb) {T:Nat->Nat} (hT:∀ b,lo<=b->T b=2) :
  HeapSt T w2 (.slice (some ⟨g',0,none⟩) (hs.length+1) cap) g' (fun i=>if i=hs.length then vb else s i) (hs++[⟨c,List.replicate k xaU⟩]):=by
 have hb:=xaf hx hb2;have hgl:=xal hcur;have hxs:=hx.size
 have hcell:∀ j,j<(hs.length+1)*2->w2.cell? ⟨g',j,none⟩=(cur.toList++[.int .i64 c,.slice (some ⟨vb,0,none⟩) k k])[j]?:=fun j hj=>by
  rw[qzB hh,← hcl,List.getElem?_take,if_pos hj];simp
 have hcl':cur.toList.length=hs.length*2:=by simpa using hlen
 have hin:∀ i x,hs[i]?=some x->s i<w1.heap.size:=fun i x hx=>hR.lt i (xae hx)
 refine⟨⟨cap,by simp,by simpa using h1,h2⟩,by simp;omega,xal hh,hT _ (by omega),fun i x hi=>?_,fun i j hi hj e=>?_⟩
 ·by_cases hil:i<hs.length
  ·rw[List.getElem?_append_left hil] at hi;obtain⟨e1,e2,e3,e4,e5⟩:=hR.obj i x hil hi;simp only[show i≠hs.length by omega,if_false]
   have d:∀ j,j<hs.length*2->w2.cell? ⟨g',j,none⟩=w1.cell? ⟨g,j,none⟩:=fun j hj=>by
    rw[hcell j (by omega),List.getElem?_append_left (by omega),qzB hcur];simp
   have:=hin i x hi
   exact⟨by rw[d _ (by omega)];exact e1,by rw[d _ (by omega)];exact e2,xad e3 hb,hT _ (by omega),by omega,e5⟩
  ·have hi':i=hs.length:=by
    have:=xae hi
    simp at this;omega
   subst hi'
   simp at hi
   subst hi;simp only[if_true];refine⟨?_,?_,hv,hT _ hlo,by omega,by simp;omega⟩
   ·rw[hcell _ (by omega),List.getElem?_append_right (by omega),hcl'];simp
   ·rw[hcell _ (by omega),List.getElem?_append_right (by omega),hcl',show hs.length*2+1-hs.length*2=1 by omega];simp
 ·simp at hi hj
  have big:∀ i,i<hs.length->vb<s i:=fun i hi=>by
   have hx:hs[i]?=some hs[i]:=by simp[hi]
   have:=(hR.obj i _ hi hx).2.2.2.1
   omega
  by_cases a1:i=hs.length
  ·by_cases a2:j=hs.length
   ·omega
   ·rw[if_pos a1,if_neg a2] at e;have:=big j (by omega);omega
  ·by_cases a2:j=hs.length
   ·rw[if_neg a1,if_pos a2] at e;have:=big i (by omega);omega
   ·rw[if_neg a1,if_neg a2] at e
    rcases Nat.lt_trichotomy i j with h | h | h
    ·have:=hR.inc i j h (by omega);omega
    ·exact h
    ·have:=hR.inc j i h (by omega);omega
def xnp (w:World)(hs:List QO)(c:Int)(k:Nat)(e:Ending)(w':World):Prop:=Below w.heap.size w w'/\
  ((60<=hs.length\/2147483647<k)->e=.returned (.tuple #[.slice none 0 0,VV xaU,.int .i64 15]))/\
  (¬ (60<=hs.length\/2147483647<k)->∃ g s cap,e=.returned (.tuple #[.slice (some ⟨g,0,none⟩) (hs.length+1) cap,VV ⟨4,hs.length⟩,.int .i64 0])/\∀ T:Nat->Nat,T w.heap.size=4->(∀ b,w.heap.size+1<=b->T b=2)->HeapSt T w' (.slice (some ⟨g,0,none⟩) (hs.length+1) cap) g s (hs++[⟨c,List.replicate k xaU⟩]))
theorem xoX {P:Nat->Prop}(hs:List QO)(hv:Value)(c:Int)(k:Nat)(w:World)(h:xaD P w hv hs):Calls Try.prog 120 #[hv,.int .i64 c,.int .i64 k] w fun e w'=>xnp w hs c k e w':=by
 obtain⟨a,cap,rfl,-⟩:=id h
 by_cases h6:60<=hs.length
 ·have h6':(60:Int)<=(hs.length:Int):=by omega
  have HN:Hid (60<=hs.length\/2147483647<k):=Or.inl h6;go_enter Try.func120,Try.ntmps120;go_wp2;refine qzK (v:=.tuple #[.slice none 0 0,VV xaU,.int .i64 15]) ?_ rfl ⟨xak _ _,fun _=>rfl,fun hn=>absurd HN.out hn⟩
  simp[results,Try.results120,go_sem]
 have h6':¬ ((60:Int)<=(hs.length:Int)):=by omega
 by_cases h7:2147483647<k
 ·have h7':(2147483647:Int)<(k:Int):=by omega
  have HN:Hid (60<=hs.length\/2147483647<k):=Or.inr h7;go_enter Try.func120,Try.ntmps120;go_wp2;refine qzK (v:=.tuple #[.slice none 0 0,VV xaU,.int .i64 15]) ?_ rfl ⟨xak _ _,fun _=>rfl,fun hn=>absurd HN.out hn⟩
  simp[results,Try.results120,go_sem]
 have h7':¬ ((2147483647:Int)<(k:Int)):=by omega
 have hmk:=xcH k (by omega)
 have HN:Hid (¬ (60<=hs.length\/2147483647<k)):=by show ¬ _;omega
 have hk0:¬ ((k:Int)<0):=by omega
 have hb3:Below w.heap.size w (((w.alloc (.cells #[.int .i64 0,.int .i64 0] 27)).alloc (.cells (madeCells #[.int .i64 0,.int .i64 0] (k*2)) 27)).alloc (.cells #[.int .i64 c,.slice (some ⟨w.heap.size+1,0,none⟩) k k] 82)).drew:=(xfL _ _ _ _).drew;have hH:=h.later xaE hb3;have hsz:(((w.alloc (.cells #[.int .i64 0,.int .i64 0] 27)).alloc (.cells (madeCells #[.int .i64 0,.int .i64 0] (k*2)) 27)).alloc (.cells #[.int .i64 c,.slice (some ⟨w.heap.size+1,0,none⟩) k k] 82)).drew.heap.size=w.heap.size+3:=by simp
 have hS0:(((w.alloc (.cells #[.int .i64 0,.int .i64 0] 27)).alloc (.cells (madeCells #[.int .i64 0,.int .i64 0] (k*2)) 27)).alloc (.cells #[.int .i64 c,.slice (some ⟨w.heap.size+1,0,none⟩) k k] 82)).drew.cell? ⟨w.heap.size+1+1,0,none⟩=some (.int .i64 c)/\(((w.alloc (.cells #[.int .i64 0,.int .i64 0] 27)).alloc (.cells (madeCells #[.int .i64 0,.int .i64 0] (k*2)) 27)).alloc (.cells #[.int .i64 c,.slice (some ⟨w.heap.size+1,0,none⟩) k k] 82)).drew.cell? ⟨w.heap.size+1+1,1,none⟩=some (.slice (some ⟨w.heap.size+1,0,none⟩) k k)/\NwS w k (((w.alloc (.cells #[.int .i64 0,.int .i64 0] 27)).alloc (.cells (madeCells #[.int .i64 0,.int .i64 0] (k*2)) 27)).alloc (.cells #[.int .i64 c,.slice (some ⟨w.heap.size+1,0,none⟩) k k] 82)).drew:=by
  refine⟨xaa _ _ _ _ (by simp) 0,xaa _ _ _ _ (by simp) 1,hb3,⟨_,qzA (xbP _ _ _).drew (xaa w #[.int .i64 0,.int .i64 0] 27 _ rfl 0)⟩,⟨_,qzA (xbP _ _ _).drew (xaa w #[.int .i64 0,.int .i64 0] 27 _ rfl 1)⟩,fun o=>((xbP _ _ _).drew.frozen (p:=⟨w.heap.size,o,none⟩) (by simp)).trans (xap (qzJ w (.cells #[.int .i64 0,.int .i64 0] 27)) o),?_⟩
  rw[← xld];refine xad (w:=(w.alloc (.cells #[.int .i64 0,.int .i64 0] 27)).alloc (.cells (madeCells #[.int .i64 0,.int .i64 0] (k*2)) 27)) ?_ (xak _ _).drew;have:=qzJ (w.alloc (.cells #[.int .i64 0,.int .i64 0] 27)) (.cells (madeCells #[.int .i64 0,.int .i64 0] (k*2)) 27)
  simpa using this
 clear h;go_enter Try.func120,Try.ntmps120;go_wp2;generalize (((w.alloc (.cells #[.int .i64 0,.int .i64 0] 27)).alloc (.cells (madeCells #[.int .i64 0,.int .i64 0] (k*2)) 27)).alloc (.cells #[.int .i64 c,.slice (some ⟨w.heap.size+1,0,none⟩) k k] 82))=W0 at *;clear hmk;have hszW:W0.heap.size=w.heap.size+3:=hsz
 go_region_held3 (fun w'=>w'.cell? ⟨w.heap.size+1+1,0,none⟩=some (.int .i64 c)/\w'.cell? ⟨w.heap.size+1+1,1,none⟩=some (Value.slice (some { block:=w.heap.size+1,off:=0 }) k k)/\NwS w k w')
  (first | with_reducible exact hS0 | with_reducible exact hY | exact xrs (by omega) hY _ _ _ _ | exact xqQ (‹_/\_/\NwS w k _›) (xak _ _))
  (first
   | (refine xfS rfl (.tmp 24) (.tmp 26) rfl g hs.length rfl _ rfl cur (by first | exact hcur | exact ((xak _ _).block _ (xal hcur)).trans hcur) hlen (.int .i64 c) (Value.slice (some { block:=w.heap.size+1,off:=0 }) k k) (by first | (rw[xaa _ _ _ _ rfl];rfl) | exact qzA hb1 (xaa W0 _ 82 _ hszW 0)) (by first | (rw[xaa _ _ _ _ rfl];rfl) | exact qzA hb1 (xaa W0 _ 82 _ hszW 1)) rfl rfl hl0 ?_;intro g' cap' cur' w2 n1 n2 hh2 hcl hg2 hb2;have hY:=xqQ (‹_/\_/\NwS w k _›) hb2;have hfin:Hid (∀ T:Nat->Nat,(∀ b,w.heap.size+1<=b->T b=2)->HeapSt T w2 (.slice (some ⟨g',0,none⟩) (hs.length+1) cap') g' _ (hs++[⟨c,List.replicate k xaU⟩])):=(fun T hT=>xpU xfu hcur hlen (by first | exact qzL _ _ | exact xak _ _) hb2 hY.2.2.vals n1 n2 hh2 hcl hg2 (by omega) hl0 (by omega) (qzC _) hT);obtain⟨-,⟨v0,u0⟩,⟨v1,u1⟩,hfr,-⟩:=id hY.2.2)
   | (go_at_call 60;refine (xkg hs _ _ (hH.later xaE (by first | exact qzL _ _ | exact xak _ _))).mono ?_;rintro e w1 ⟨g,sg,rfl,xfu,hg1,hb1⟩;obtain⟨cur,hcur,hlen⟩:=xfu.row;have hl0:hs.length<1000:=(by omega);have hg3:w.heap.size+3<=g:=(by simp at hg1;omega);have hY:=xqQ (‹_/\_/\NwS w k _›) hb1))
 all_goals go_wp2
 all_goals (
  refine qzK (v:=.tuple #[.slice (some ⟨g',0,none⟩) (hs.length+1) cap',VV ⟨4,hs.length⟩,.int .i64 0]) ?_ rfl ⟨((hY.2.2.set _ _).set _ _).bel,fun h=>absurd h HN.out,fun _=>⟨g',(fun i=>if i=hs.length then w.heap.size+1 else sg i),cap',rfl,fun T hT1 hT2=>?_⟩⟩
  ·simp[results,Try.results120,go_sem,u0,u1]
  ·exact (hfin.out T hT2).keep (.refl _ _) (((Kp.refl (fun t=>t=4) _ _).set (fun _=>hT1) _ _).set (fun _=>hT1) _ _) (by omega))
structure MkS (w:World)(mb:Nat)(v0 v1:Value)(ep:Int)(w':World):Prop where
 bel:Below w.heap.size w w'
 m0:w'.cell? ⟨mb,0,none⟩=some v0
 m1:w'.cell? ⟨mb,1,none⟩=some v1
 m2:w'.cell? ⟨mb,2,none⟩=some (.int .i64 ep)
 lt:mb<w.heap.size
theorem MkS.later {w:World}{mb:Nat}{v0 v1:Value}{ep:Int}{w' w'':World}(h:MkS w mb v0 v1 ep w')(hb:Below w'.heap.size w' w''):MkS w mb v0 v1 ep w'':=⟨xaf h.bel hb,qzA hb h.m0,qzA hb h.m1,qzA hb h.m2,h.lt⟩
theorem MkS.set {w:World}{mb:Nat}{v0 v1:Value}{ep:Int}{w':World}(h:MkS w mb v0 v1 ep w'){b:Nat}(hb:w.heap.size<=b)(o:Nat)(u:Value):MkS w mb v0 v1 ep (w'.setCell ⟨b,o,none⟩ u):=
 have hl:=h.lt
 ⟨h.bel.setCell hb _,(qzI _ _ _ _ (by simp;omega)).trans h.m0,(qzI _ _ _ _ (by simp;omega)).trans h.m1,(qzI _ _ _ _ (by simp;omega)).trans h.m2,hl⟩
theorem MkS.al {w:World}{mb:Nat}{v0 v1:Value}{ep:Int}{w':World}(h:MkS w mb v0 v1 ep w'):w'.cell? ⟨mb,0,none⟩=some v0/\w'.cell? ⟨mb,1,none⟩=some v1/\w'.cell? ⟨mb,2,none⟩=some (.int .i64 ep)/\MkS w mb v0 v1 ep w':=⟨h.m0,h.m1,h.m2,h⟩
theorem xpc (w:World)(x:Obj):w.heap.size<(w.alloc x).drew.heap.size:=by simp
theorem xrX (T:Nat->Nat)(w:World){W' w2:World}{hv:Value}{g:Nat}{s:Nat->Nat}{xs:List QO}(h:∀ T:Nat->Nat,T W'.heap.size=4->(∀ b,W'.heap.size+1<=b->T b=2)->HeapSt T w2 hv g s xs):Hid (∃ T2,(w.heap.size<=W'.heap.size->Ext T T2 w)/\HeapSt T2 w2 hv g s xs/\∀ b,w.heap.size<=b->b<=W'.heap.size->T2 b=4):=by
 refine⟨fun b=>if b<w.heap.size/\b<W'.heap.size then T b else if b<=W'.heap.size then 4 else 2,fun hs b hb=>?_,h _ ?_ fun b hb=>?_,fun b h1 h2=>?_⟩
 ·simp only[if_pos (And.intro hb (qzE hb hs))]
 ·simp
 ·simp only[if_neg (show ¬ (b<w.heap.size/\b<W'.heap.size) by omega),if_neg (show ¬ b<=W'.heap.size by omega)]
 ·simp only[if_neg (show ¬ (b<w.heap.size/\b<W'.heap.size) by omega),if_pos h2]
theorem xlD {hv2:Value}{g2:Nat}{s2:Nat->Nat}{xs2:List QO}{w2 U:World}{T2:Nat->Nat}{v:QV}(hM:MacAt p T w mb m calls hv g s)(hF:FrAt T K w fb f cv av tv sv kv)(hE:Ext T T2 w)(hH:HeapSt T2 w2 hv2 g2 s2 xs2)(ha:U.heap[mb]?=some (MB p { m with heap:=xs2 } calls hv2))(kU:Kp (fun t=>t=1\/t=4) T2 w2 U)(kw:Kp (fun t=>t=1) T w U)(hroom:f.stack.length<1000000000) :
  Calls Try.prog 111 #[.pointer (some ⟨fb,0,none⟩),VV v] U fun e w'=>e=.returned (.tuple #[])/\(∃ T',Ext T T' w/\(∃ hv' g' s',MacAt p T' w' mb { m with heap:=xs2 } calls hv' g' s')/\(((0:Int)=0)->∃ sv',FrAt T' K w' fb (f.push v) cv av tv sv' kv))/\Kp (fun t=>t=1\/t=K\/t=K+2) T w w':=by
 have hp:=hF.pos;have hMU:MacAt p T2 U mb { m with heap:=xs2 } calls hv2 g2 s2:=⟨ha,by rw[hE _ (xal hM.box)];exact hM.tag,hH.keep (.refl _ _) kU (by omega),hM.cls.fx xaA hE kw (by omega)⟩
 have hFU:=hF.keep hE kw (by omega) (by omega) (by omega) (by omega)
 refine (xew hFU v hroom).mono ?_;rintro e w4 ⟨rfl,⟨T4,sv4,e4,hF4⟩,k4⟩;have ew:Ext T T4 w:=hE.trans kw.size e4;refine⟨rfl,⟨T4,ew,⟨_,_,_,hMU.keep e4 k4 (by omega) (by omega) (by omega)⟩,fun _=>⟨_,hF4⟩⟩,?_⟩
 exact (kw.mono fun t h=>Or.inl h).trans hE (k4.mono fun t h=>Or.inr h)
def xop (p:Mp σ)(T:Nat->Nat)(w:World)(mb:Nat)(m:Mc σ)(calls:Int)(K fb:Nat)(f:Fr)(cv av tv kv:Value)(r:Mc σ × Fr × Int)(e:Ending)(w':World):Prop:=
 e=.returned (.int .i64 r.2.2)/\(∃ T',Ext T T' w/\(∃ hv' g' s',MacAt p T' w' mb r.1 calls hv' g' s')/\(r.2.2=0->∃ sv',FrAt T' K w' fb r.2.1 cv av tv sv' kv))/\Kp (fun t=>t=1\/t=K\/t=K+2) T w w'
theorem xgO (h:MacAt p T w mb m calls hv g s)(hF:FrAt T K w fb f cv av tv sv kv)(c:Int)(hsl:xbe p.E.cz c=xaY p.E.cz c/\0<=xaY p.E.cz c)(hroom:f.stack.length<1000000000):Calls Try.prog 114 #[.pointer (some ⟨mb,0,none⟩),.pointer (some ⟨fb,0,none⟩),.int .i64 c] w fun e w'=>xop p T w mb m calls K fb f cv av tv kv (xbV p.E m f c) e w':=by
 have hp:=hF.pos;have hlm:=xal h.box;have hlf:=xal hF.box;obtain⟨k,hk⟩:∃ k:Nat,xaY p.E.cz c=(k:Int):=⟨(xaY p.E.cz c).toNat,by omega⟩
 have HE:Hid (xbV p.E m f c=if 60<=m.heap.length\/2147483647<k then (m,f,15) else ({ m with heap:=m.heap++[⟨c,List.replicate k xaU⟩] },f.push ⟨4,m.heap.length⟩,0)):=by
  show _=_
  unfold xbV;rw[hk];simp only[Int.toNat_natCast]
  by_cases hc:60<=m.heap.length\/(2147483647:Int)<(k:Int)
  ·rw[if_pos hc,if_pos (by omega)]
  ·rw[if_neg hc,if_neg (by omega)]
 have hW:xbe p.E.cz c=(k:Int):=by rw[hsl.1,hk]
 clear hk hsl;have hd:Below w.heap.size w w.drew:=(qzL _ _).drew;have hM:=h;have hFr:=hF;have hH:=hM.heap.heap.mono (Q:=fun _=>True) xaE fun _ _=>trivial
 have hC:=hM.cls.mono (Q:=fun _=>True) xaA fun _ _=>trivial
 have hS0:MkS w mb p.cv hv p.ep w.drew:=⟨hd,hM.c0,hM.c1,hM.c2,hlm⟩;have HM:=hid hM;have HF:=hid hFr;obtain⟨ac,cc,hcv,-⟩:=id hC;obtain⟨ah,ch,rfl,-⟩:=id hH
 have hslots:∀ w':World,Below w.heap.size w w'->Calls Try.prog 121 #[WV p.cv (.slice ah m.heap.length ch) p.ep,.int .i64 c] w' fun e w''=>e=.returned (.int .i64 (k:Int))/\Below w'.heap.size w' w'':=fun w' hb=>by
  have:=xkX ⟨p.E.cz,m.heap,p.ep⟩ c _ _ w' (hC.later xaA hb) (hH.later xaE hb);rw[hW] at this
  exact this
 rw[hcv] at hslots hS0;have hnew:∀ w':World,Below w.heap.size w w'->Calls Try.prog 120 #[.slice ah m.heap.length ch,.int .i64 c,.int .i64 (k:Int)] w' fun e w''=>xnp w' m.heap c k e w'':=fun w' hb=>xoX m.heap _ c k w' (hH.later xaE hb)
 clear h hF hM hFr hW hcv hC hH
 by_cases hc:60<=m.heap.length\/2147483647<k
 ·rw[if_pos hc] at HE;rw[HE.out];have HC:=hid hc;clear hc;go_enter Try.func114,Try.ntmps114;go_wp2;have tokA:True:=trivial
  go_region_held3 (fun w'=>w'.cell? ⟨mb,0,none⟩=some (.slice ac p.E.cz.length cc)/\w'.cell? ⟨mb,1,none⟩=some (.slice ah m.heap.length ch)/\w'.cell? ⟨mb,2,none⟩=some (.int .i64 p.ep)/\MkS w mb (.slice ac p.E.cz.length cc) (.slice ah m.heap.length ch) p.ep w')
   (first | with_reducible exact hS0.al | with_reducible exact hY.al | with_reducible exact hY2.al | exact (hY2.later (xak _ _)).al | exact ((‹_/\_/\_/\MkS w mb (.slice ac p.E.cz.length cc) (.slice ah m.heap.length ch) p.ep _›).2.2.2.later (xak _ _)).al | exact ((hY2.set (by omega) _ _).set (by omega) _ _).al)
   (first
    | (have _t:=tokA;go_at_call 121;refine (hslots _ (‹_/\_/\_/\MkS w mb (.slice ac p.E.cz.length cc) (.slice ah m.heap.length ch) p.ep _›).2.2.2.bel).mono ?_;rintro e w1 ⟨rfl,hb1⟩;have hY:=(‹_/\_/\_/\MkS w mb (.slice ac p.E.cz.length cc) (.slice ah m.heap.length ch) p.ep _›).2.2.2.later hb1;clear tokA;have tokB:True:=trivial;obtain⟨hc1,hf1⟩:=xjm hb1;have hz1:=hY.bel.size;try (have hl:=qzE (xpc w _) hb1.size))
    | (have _t:=tokB;go_at_call 120;refine (hnew _ (‹_/\_/\_/\MkS w mb (.slice ac p.E.cz.length cc) (.slice ah m.heap.length ch) p.ep _›).2.2.2.bel).mono ?_;rintro e w2 ⟨hb2,hp1,-⟩;obtain rfl:=hp1 HC.out;clear hp1;have hY2:=(‹_/\_/\_/\MkS w mb (.slice ac p.E.cz.length cc) (.slice ah m.heap.length ch) p.ep _›).2.2.2.later hb2;have hsz0:=(‹_/\_/\_/\MkS w mb (.slice ac p.E.cz.length cc) (.slice ah m.heap.length ch) p.ep _›).2.2.2.bel.size;clear tokB;obtain⟨hc2,hf2⟩:=xjm hb2;have hz2:=hb2.size;have hz3:=hb1.size))
  all_goals (
   have HBF:=hid (‹_/\_/\_/\MkS w mb (.slice ac p.E.cz.length cc) (.slice ah m.heap.length ch) p.ep _›).2.2.2.bel;clear hY hY2;go_wp2
   go_ret
   exact⟨rfl,⟨T,.refl _ _,⟨_,_,_,HM.out.later HBF.out⟩,fun h=>absurd h (by simp)⟩,Kp.of_below HBF.out⟩)
 ·rw[if_neg hc] at HE;rw[HE.out];have HC:=hid hc;clear hc;go_enter Try.func114,Try.ntmps114;go_wp2;have tokA:True:=trivial
  go_region_held3 (fun w'=>w'.cell? ⟨mb,0,none⟩=some (.slice ac p.E.cz.length cc)/\w'.cell? ⟨mb,1,none⟩=some (.slice ah m.heap.length ch)/\w'.cell? ⟨mb,2,none⟩=some (.int .i64 p.ep)/\MkS w mb (.slice ac p.E.cz.length cc) (.slice ah m.heap.length ch) p.ep w')
   (first | with_reducible exact hS0.al | with_reducible exact hY.al | with_reducible exact hY2.al | exact (hY2.later (xak _ _)).al | exact ((‹_/\_/\_/\MkS w mb (.slice ac p.E.cz.length cc) (.slice ah m.heap.length ch) p.ep _›).2.2.2.later (xak _ _)).al | exact ((hY2.set (by omega) _ _).set (by omega) _ _).al)
   (first
    | (have _t:=tokA;go_at_call 121;refine (hslots _ (‹_/\_/\_/\MkS w mb (.slice ac p.E.cz.length cc) (.slice ah m.heap.length ch) p.ep _›).2.2.2.bel).mono ?_;rintro e w1 ⟨rfl,hb1⟩;have hY:=(‹_/\_/\_/\MkS w mb (.slice ac p.E.cz.length cc) (.slice ah m.heap.length ch) p.ep _›).2.2.2.later hb1;clear tokA;have tokB:True:=trivial;obtain⟨hc1,hf1⟩:=xjm hb1;have hz1:=hY.bel.size;try (have hl:=qzE (xpc w _) hb1.size))
    | (have _t:=tokB;go_at_call 120;refine (hnew _ (‹_/\_/\_/\MkS w mb (.slice ac p.E.cz.length cc) (.slice ah m.heap.length ch) p.ep _›).2.2.2.bel).mono ?_;rintro e w2 ⟨hb2,-,hp2⟩;obtain⟨g2,s2,cap2,rfl,hheap⟩:=hp2 HC.out;have hsum:=xrX T w hheap;clear hp2 hheap;have hY2:=(‹_/\_/\_/\MkS w mb (.slice ac p.E.cz.length cc) (.slice ah m.heap.length ch) p.ep _›).2.2.2.later hb2;have hsz0:=(‹_/\_/\_/\MkS w mb (.slice ac p.E.cz.length cc) (.slice ah m.heap.length ch) p.ep _›).2.2.2.bel.size;clear tokB;obtain⟨hc2,hf2⟩:=xjm hb2;have hz2:=hb2.size;have hz3:=hb1.size))
  all_goals (
   have HW2:=hid hY2.bel;have hx2:=xad HM.out.box HW2.out;have hm1:w2.cell? ⟨mb,1,none⟩=some (.slice ah m.heap.length ch):=by rw[qzB hx2];rfl
   have hmf:=xap hx2;have HX2:=hid hx2;have hlm2:mb<w2.heap.size:=xal hx2;have hn1:¬ mb=w2.heap.size:=by omega
   have hn2:¬ mb=w1.heap.size:=by omega
   have hn3:¬ mb=w.heap.size:=by omega
   have hn4:¬ w2.heap.size=mb:=by omega
   have hn5:¬ w1.heap.size=mb:=by omega
   have hn6:¬ w.heap.size=mb:=by omega
   clear hY hY2 hx2;go_wp2_with fail;obtain⟨T2,hE,hH2,hT4⟩:=hsum.out;have hE2:=hE (by first | omega | (simp;omega))
   have hmt:T2 mb=1:=by rw[hE2 mb hlm];exact HM.out.tag
   have h4:∀ b,w.heap.size<=b->b<=w1.heap.size->T2 b=4:=fun b h1 h2=>hT4 b h1 (by first | omega | (simp;omega))
   refine (xlD (v:=⟨4,m.heap.length⟩) HM.out HF.out hE2 hH2
    (by first | exact xad (xj3 HX2.out _ _) (xak _ _) | exact xj3 (by rw[xac hn2,xac hn2];exact HX2.out) _ _ | exact xj3 (by rw[xac hn3,xac hn3];exact HX2.out) _ _)
    (by first | exact ((Kp.refl _ _ _).set (fun _=>Or.inl hmt) _ _).on (xak _ _) | exact (((Kp.refl _ _ _).set (fun _=>Or.inr (h4 _ (by omega) (by omega))) _ _).set (fun _=>Or.inr (h4 _ (by omega) (by omega))) _ _).set (fun _=>Or.inl hmt) _ _)
    (by first | exact ((Kp.of_below HW2.out).set (fun _=>HM.out.tag) _ _).on (xak _ _) | exact (((Kp.of_below HW2.out).set (fun h=>absurd h (by omega)) _ _).set (fun h=>absurd h (by omega)) _ _).set (fun _=>HM.out.tag) _ _)
    hroom).mono ?_
   rintro e w4 ⟨rfl,q1,q2⟩;have Q1:=hid q1;have Q2:=hid q2;clear q1 q2 hc1 hf1 hc2 hf2;go_wp2
   go_ret
   obtain⟨T',a1,a2,a3⟩:=Q1.out
   exact⟨rfl,⟨T',a1,a2,fun _=>a3 (by trivial)⟩,Q2.out⟩)
end
section
variable {σ:Type}
structure Cx (p:Mp σ)(L:(Nat->Nat)->World->σ->Nat->Prop)(LF:Nat)(lc:Array Value)(QF:Nat)(qc:Array Value):Prop where
 lv:p.lv=.func (.func LF) #[] lc
 qv:p.qv=.func (.func QF) #[] qc
 lcf:∀ (args:Array Value) (w:World),(callFunc LF args).run Try.prog w=.ok (.enter LF args) w
 qcf:∀ (args:Array Value) (w:World),(callFunc QF args).run Try.prog w=.ok (.enter QF args) w
 ok:EOk p.E
 fuel:p.E.fuel<=1000000
 keep:∀ {T T':Nat->Nat} {w w':World} {st:σ} {n:Nat} {S:Nat->Prop},L T w st n->Ext T T' w->Kp S T w w'->¬ S 0->¬ S 3->L T' w' st n
 mono:∀ {T:Nat->Nat} {w:World} {st:σ} {n n':Nat},L T w st n->n'<=n->L T w st n'
 look:∀ (T:Nat->Nat) (w:World) (st:σ) (s:QS) (c:Int) (name:ByteArray) (n:Nat),L T w st (n+1)->Calls Try.prog LF (#[SV s,.int .i64 c,.string name]++lc) w fun e w'=>e=.returned (.tuple #[.int .i64 (p.E.look st s c name).2.1,.int .i64 (p.E.look st s c name).2.2])/\(∃ T',Ext T T' w/\L T' w' (p.E.look st s c name).1 n)/\Kp (fun t=>t=3) T w w'
 quick:∀ (T:Nat->Nat) (w:World) (st:σ) (c k:Int) (mt:QM) (n:Nat),L T w st n->xaI p.E.cz c k=some mt->Calls Try.prog QF (#[.int .i64 c,.int .i64 k]++qc) w fun e w'=>(∃ fc fn fe ft av nv cv,e=.returned (.tuple #[FaV fc fn fe ft (.slice av nv cv),.bool (p.E.quick c k).isSome])/\∀ q,p.E.quick c k=some q->ft=q.2/\xaR (Fx T w') w' (.slice av nv cv) q.1)/\Below w.heap.size w w'
 few:∀ c k mt,xaI p.E.cz c k=some mt->mt.code.length<=500/\∀ q,p.E.quick c k=some q->q.1.length<=500/\∀ x∈q.1,x.op=18->0<=x.b/\x.b<=1000
def xdq (E:Env σ)(m:Mc σ):Nat:=(E.fuel-m.sz_+1).toNat
abbrev All (K:Nat):Nat->Prop:=fun t=>t=1\/t=2\/t=3\/K<=t
def EnPost (p:Mp σ)(L:(Nat->Nat)->World->σ->Nat->Prop)(T:Nat->Nat)(w:World)(mb:Nat)(calls:Int)(K:Nat)(r:Mc σ × QV × Int)(e:Ending)(w':World):Prop:=
 e=.returned (.tuple #[VV r.2.1,.int .i64 r.2.2])/\(∃ T',Ext T T' w/\(∃ hv g s,MacAt p T' w' mb r.1 calls hv g s)/\L T' w' r.1.st (if r.2.2=0 then xdq p.E r.1 else 0))/\Kp (All K) T w w'
def StPost (p:Mp σ)(L:(Nat->Nat)->World->σ->Nat->Prop)(T:Nat->Nat)(w:World)(mb:Nat)(calls:Int)(K fb:Nat)(r:Mc σ × Fr × Int)(e:Ending)(w':World):Prop:=
 e=.returned (.int .i64 r.2.2)/\(∃ T',Ext T T' w/\(∃ hv g s,MacAt p T' w' mb r.1 calls hv g s)/\L T' w' r.1.st (if r.2.2=0 then xdq p.E r.1 else 0)/\(r.2.2=0->∃ cv av tv sv kv,FrAt T' K w' fb r.2.1 cv av tv sv kv))/\Kp (All K) T w w'
structure MIn (E:Env σ)(m:Mc σ):Prop where
 heap:HOk E.cz m.heap
 sz_:0<=m.sz_/\m.sz_<=E.fuel
 tz:0<=m.tz/\m.tz<=300
def xe7 (p:Mp σ)(L:(Nat->Nat)->World->σ->Nat->Prop)(d:Nat):Prop:=
 ∀ (K:Nat) (T:Nat->Nat) (w:World) (mb:Nat) (m:Mc σ) (hv:Value) (g:Nat) (s:Nat->Nat) (c n:Int) (self:QV) (args:List QV) (av:Value),5<=K->MacAt p T w mb m (20-(d:Int)) hv g s->L T w m.st (p.E.fuel-m.sz_).toNat->MIn p.E m->xax m.heap.length self=0->VsOk m.heap.length args->xaO (Fx T w) w av args->
  Calls Try.prog 63 #[.pointer (some ⟨mb,0,none⟩),.int .i64 c,.int .i64 n,VV self,av] w fun e w'=>EnPost p L T w mb (20-(d:Int)) K (xa4 p.E d m c n self args) e w'
variable {p:Mp σ} {L:(Nat->Nat)->World->σ->Nat->Prop} {LF QF:Nat} {lc qc:Array Value} {T T':Nat->Nat} {w w':World} {mb:Nat} {m m':Mc σ} {hv:Value} {g:Nat} {s:Nat->Nat} {K fb:Nat} {f:Fr} {cv av tv sv kv:Value}
structure SdR (w:World)(x:QI)(w':World):Prop where
 x0:w'.cell? ⟨w.heap.size,0,none⟩=some (.int .i64 x.op)
 x1:w'.cell? ⟨w.heap.size,1,none⟩=some (.int .i64 x.a)
 x2:w'.cell? ⟨w.heap.size,2,none⟩=some (.int .i64 x.b)
 x3:w'.cell? ⟨w.heap.size,3,none⟩=some (.int .i64 x.c)
 x4:w'.cell? ⟨w.heap.size,4,none⟩=some (.string x.name)
theorem xjP (w:World)(x:QI)(t:TypeId):SdR w x (w.alloc (.cells #[.int .i64 x.op,.int .i64 x.a,.int .i64 x.b,.int .i64 x.c,.string x.name] t)):=⟨xaa _ _ _ _ rfl 0,xaa _ _ _ _ rfl 1,xaa _ _ _ _ rfl 2,xaa _ _ _ _ rfl 3,xaa _ _ _ _ rfl 4⟩
theorem SdR.kp {w:World}{x:QI}{w' w'':World}{T:Nat->Nat}{S:Nat->Prop}(h:SdR w x w')(k:Kp S T w' w'')(hs:¬ S (T w.heap.size)):SdR w x w'':=⟨k.cell h.x0 hs,k.cell h.x1 hs,k.cell h.x2 hs,k.cell h.x3 hs,k.cell h.x4 hs⟩
theorem xr0 {a1 a2 a3 a4 a5 a6 a7 a8 a9:Addr}{v1 v2 v3 v4 v5 v6 v7 v8 v9:Value}{w w':World}(h:w.cell? a1=some v1/\w.cell? a2=some v2/\w.cell? a3=some v3/\w.cell? a4=some v4/\w.cell? a5=some v5/\w.cell? a6=some v6/\w.cell? a7=some v7/\w.cell? a8=some v8/\w.cell? a9=some v9)(hb:Below w.heap.size w w'):w'.cell? a1=some v1/\w'.cell? a2=some v2/\w'.cell? a3=some v3/\w'.cell? a4=some v4/\w'.cell? a5=some v5/\w'.cell? a6=some v6/\w'.cell? a7=some v7/\w'.cell? a8=some v8/\w'.cell? a9=some v9:=by
 obtain⟨h1,h2,h3,h4,h5,h6,h7,h8,h9⟩:=h
 exact⟨qzA hb h1,qzA hb h2,qzA hb h3,qzA hb h4,qzA hb h5,qzA hb h6,qzA hb h7,qzA hb h8,qzA hb h9⟩
theorem xrZ {T:Nat->Nat}{S:Nat->Prop}{b1 b2 b3 o1 o2:Nat}{v1 v2 v3 v4 v5 v6 v7 v8 v9:Value}{w w':World}(h:w.cell? ⟨b1,o1,none⟩=some v1/\w.cell? ⟨b1,o2,none⟩=some v2/\w.cell? ⟨b2,0,none⟩=some v3/\w.cell? ⟨b2,1,none⟩=some v4/\w.cell? ⟨b2,2,none⟩=some v5/\w.cell? ⟨b2,3,none⟩=some v6/\w.cell? ⟨b2,4,none⟩=some v7/\w.cell? ⟨b3,0,none⟩=some v8/\w.cell? ⟨b3,1,none⟩=some v9)(k:Kp S T w w')(h1:¬ S (T b1))(h2:¬ S (T b2))(h3:¬ S (T b3)):w'.cell? ⟨b1,o1,none⟩=some v1/\w'.cell? ⟨b1,o2,none⟩=some v2/\w'.cell? ⟨b2,0,none⟩=some v3/\w'.cell? ⟨b2,1,none⟩=some v4/\w'.cell? ⟨b2,2,none⟩=some v5/\w'.cell? ⟨b2,3,none⟩=some v6/\w'.cell? ⟨b2,4,none⟩=some v7/\w'.cell? ⟨b3,0,none⟩=some v8/\w'.cell? ⟨b3,1,none⟩=some v9:=by
 obtain⟨e1,e2,e3,e4,e5,e6,e7,e8,e9⟩:=h
 exact⟨k.cell e1 h1,k.cell e2 h1,k.cell e3 h2,k.cell e4 h2,k.cell e5 h2,k.cell e6 h2,k.cell e7 h2,k.cell e8 h3,k.cell e9 h3⟩
theorem MacAt.st {calls:Int}(h:MacAt p T w mb m calls hv g s)(st:σ):MacAt p T w mb { m with st:=st } calls hv g s:=⟨h.box,h.tag,h.heap,h.cls⟩
theorem xot (hC:Cx p L LF lc QF qc){d:Nat}(hEn:xe7 p L d)(h:MacAt p T w mb m (20-(d:Int)) hv g s)(hF:FrAt T K w fb f cv av tv sv kv)(hL:L T w m.st (xdq p.E m))(hI:MIn p.E m)(hFo:FOk p.E.cz m.heap.length f)(hst:f.stack.length<=1000000)(a:Int)(x:QI) :
  Calls Try.prog 115 #[.pointer (some ⟨mb,0,none⟩),.pointer (some ⟨fb,0,none⟩),.int .i64 a,IV x] w fun e w'=>StPost p L T w mb (20-(d:Int)) K fb (xbD (xa4 p.E d) p.E m f a x) e w':=by
 have hp:=hF.pos;have hlm:=xal h.box;have hlf:=xal hF.box;have hX:=xaq T w 4;have hT4:∀ b,w.heap.size<=b->xaF T w 4 b=4:=fun b hb=>xaJ hb
 have hb1:=xak w (.cells #[.int .i64 x.op,.int .i64 x.a,.int .i64 x.b,.int .i64 x.c,.string x.name] 59);have hM0:=(h.tagged0 4).later hb1;have hF0:=(hF.tagged0 4).later hb1;have hL0:=hC.keep (hC.keep hL hX (Kp.refl (fun _=>False) _ _) id id) (.refl _ _) (Kp.of_below (S:=fun _=>False) hb1) id id
 have hR0:=xjP w x 59;clear h hF hL;generalize xaF T w 4=T1 at *;obtain⟨k,hk⟩:∃ k,k=xbp f.stack x.a:=⟨_,rfl⟩;have HS:Hid (xbD (xa4 p.E d) p.E m f a x=(let l:=p.E.look m.st (f.site a x) (xas m.heap (xaQ (f.stack.take k) 0)) x.name;let r:=xa4 p.E d { m with st:=l.1 } l.2.1 l.2.2 (xaQ (f.stack.take k) 0) (f.stack.drop k);if r.2.2≠0 then (r.1,f,r.2.2) else (r.1,{ f with stack:=(f.stack.take k).dropLast++[r.2.1] },0))):=by show _=_;unfold xbD;rw[← hk]
 have HSelf:Hid (xax m.heap.length (xaQ (f.stack.take k) 0)=0):=VsOk.entry (hFo.stack.sub fun v hv=>List.mem_of_mem_take hv) _
 have HArgs:Hid (VsOk m.heap.length (f.stack.drop k)):=hFo.stack.sub fun v hv=>List.mem_of_mem_drop hv
 have HTop:Hid (Fr.top { f with stack:=f.stack.take k }=xaQ (f.stack.take k) 0):=rfl
 have HPop:Hid (Fr.pop { f with stack:=f.stack.take k }={ f with stack:=(f.stack.take k).dropLast }):=rfl
 have HSite:Hid (∀ l,Fr.site { f with stack:=l } a x=f.site a x):=fun _=>rfl
 have HLen:Hid ((f.stack.take k).dropLast.length<=1000000):=by show _<=_;simp;omega
 have hPA:=xjl hF0 x.a k hk;have hTL:(f.stack.take k).length<=1000000:=by simp;omega
 clear hk;go_enter Try.func115,Try.ntmps115
 go_upto_region 1 with (fail)
 generalize (w.alloc (.cells #[.int .i64 x.op,.int .i64 x.a,.int .i64 x.b,.int .i64 x.c,.string x.name] 59))=W at *;obtain⟨x0,x1,x2,x3,x4⟩:=id hR0;go_wp2_with fail;refine hPA.mono ?_;rintro e w1 ⟨aa,ca,T2,sv1,rfl,hX1,hF1,hA1,hK1⟩;clear hPA;generalize f.stack.drop k=args at *;have hz4:T1 w.heap.size=4:=hT4 _ (qzC _);have hM1:=hM0.keep hX1 hK1 (by omega) (by omega) (by omega)
 have hL1:=hC.keep hL0 hX1 hK1 (by omega) (by omega)
 have hR1:=hR0.kp hK1 (by rw[hz4];omega)
 clear x0 x1 x2 x3 x4;go_wp2_with fail;refine (xen hF1).mono ?_;rintro e w2 ⟨rfl,⟨sv2,hF2⟩,hK2⟩;have hM2:=hM1.keep (.refl _ _) hK2 (by omega) (by omega) (by omega)
 have hL2:=hC.keep hL1 (.refl _ _) hK2 (by omega) (by omega)
 have hA2:=hA1.fx xa1 (.refl _ _) hK2 (by omega)
 have hWz:w.heap.size<W.heap.size:=World.block_lt_of_cell? W ⟨w.heap.size,0,none⟩ hR0.x0;have hz5:T2 w.heap.size=4:=by rw[hX1 _ hWz];exact hz4
 have hR2:=hR1.kp hK2 (by rw[hz5];omega)
 rw[HTop.out];rw[HPop.out] at hF2;generalize xaQ (f.stack.take k) 0=self at *;generalize (f.stack.take k).dropLast=rest at *;have hbV:Below w2.heap.size w2 (w2.alloc (.cells #[.int .i64 self.k,.int .i64 self.n] 27)).drew:=(xak _ _).drew;have hX3:=xaq T2 w2 4;have hT5:∀ b,w2.heap.size<=b->xaF T2 w2 4 b=4:=fun b hb=>xaJ hb
 have hM3:=(hM2.tagged0 4).later hbV;have hF3:=(hF2.tagged0 4).later hbV;have hL3:=hC.keep (hC.keep hL2 hX3 (Kp.refl (fun _=>False) _ _) id id) (.refl _ _) (Kp.of_below (S:=fun _=>False) hbV) id id
 have hA3:=(xeG hA2 xa1 4).fx xa1 (.refl _ w2) (Kp.of_below (S:=fun _=>False) hbV) id
 have hR3:SdR w x (w2.alloc (.cells #[.int .i64 self.k,.int .i64 self.n] 27)).drew:=hR2.kp (T:=T2) (S:=fun _=>False) (Kp.of_below hbV) id
 have s0:(w2.alloc (.cells #[.int .i64 self.k,.int .i64 self.n] 27)).drew.cell? ⟨w2.heap.size,0,none⟩=some (.int .i64 self.k):=xaa w2 #[.int .i64 self.k,.int .i64 self.n] 27 _ rfl 0;have s1:(w2.alloc (.cells #[.int .i64 self.k,.int .i64 self.n] 27)).drew.cell? ⟨w2.heap.size,1,none⟩=some (.int .i64 self.n):=xaa w2 #[.int .i64 self.k,.int .i64 self.n] 27 _ rfl 1;have hz6:xaF T2 w2 4 w.heap.size=4:=by rw[hX3 _ (qzE hWz (qzD hK1.size hK2.size))];exact hz5
 have hz7:xaF T2 w2 4 w2.heap.size=4:=hT5 _ (qzC _);have HE3:Hid (Ext T (xaF T2 w2 4) w):=((hX.trans hb1.size hX1).trans (qzD hb1.size (qzD hK1.size hK2.size)) hX3);have HK3:Hid (Kp (All K) T w (w2.alloc (.cells #[.int .i64 self.k,.int .i64 self.n] 27)).drew):=((((Kp.of_below (S:=All K) hb1).trans hX (hK1.mono fun t h=>Or.inr (Or.inr (Or.inr (by omega))))).trans (hX.trans hb1.size hX1) (hK2.mono fun t h=>Or.inr (Or.inr (Or.inr (by omega))))).on hbV)
 clear hM2 hF2 hL2 hA2 hR2 hM1 hF1 hL1 hA1 hR1 hM0 hF0 hL0 hR0 hK1 hK2 hX1 hb1 hz4 hz5;go_wp2;generalize xaF T2 w2 4=T3 at *;generalize (w2.alloc (.cells #[.int .i64 self.k,.int .i64 self.n] 27))=V at *;have m7:=hM3.c7;have m1:=hM3.c1;rw[hC.lv] at m7;obtain⟨ch,rfl,hc1,hc2⟩:=hM3.heap.form;obtain⟨x0,x1,x2,x3,x4⟩:=id hR3
 have hsite:Calls Try.prog 123 #[.pointer (some ⟨fb,0,none⟩),.int .i64 a,IV x] V.drew fun e w'=>e=.returned (SV (f.site a x))/\Below V.drew.heap.size V.drew w':=by
  have:=xoJ hF3 a x;rw[HSite.out] at this
  exact this
 have hcls:∀ w':World,Below V.drew.heap.size V.drew w'->Calls Try.prog 62 #[.slice (some ⟨g,0,none⟩) m.heap.length ch,VV self] w' fun e w''=>e=.returned (.int .i64 (xas m.heap self))/\Below w'.heap.size w' w'':=fun w' hb=>xe4 m.heap _ self w' ((hM3.heap.heap).later xaE hb)
 have hlook:∀ w':World,Below V.drew.heap.size V.drew w'->Calls Try.prog LF (#[SV (f.site a x),.int .i64 (xas m.heap self),.string x.name]++lc) w' _:=fun w' hb=>hC.look T3 w' m.st (f.site a x) (xas m.heap self) x.name (p.E.fuel-m.sz_).toNat (hC.keep (hC.mono hL3 (by unfold xdq;have:=hI.sz_;omega)) (.refl _ _) (Kp.of_below (S:=fun _=>False) hb) id id)
 obtain⟨c0,hc0⟩:∃ c0,c0=xas m.heap self:=⟨_,rfl⟩;obtain⟨st0,hst0⟩:∃ st0,st0=f.site a x:=⟨_,rfl⟩;rw[← hc0] at hlook HS hcls;rw[← hst0] at hlook HS hsite;have HST:=hid hst0;clear hc0 hst0;have hS0:V.drew.cell? ⟨mb,7,none⟩=some (.func (.func LF) #[] lc)/\V.drew.cell? ⟨mb,1,none⟩=some (.slice (some ⟨g,0,none⟩) m.heap.length ch)/\V.drew.cell? ⟨w.heap.size,0,none⟩=some (.int .i64 x.op)/\V.drew.cell? ⟨w.heap.size,1,none⟩=some (.int .i64 x.a)/\V.drew.cell? ⟨w.heap.size,2,none⟩=some (.int .i64 x.b)/\V.drew.cell? ⟨w.heap.size,3,none⟩=some (.int .i64 x.c)/\V.drew.cell? ⟨w.heap.size,4,none⟩=some (.string x.name)/\V.drew.cell? ⟨w2.heap.size,0,none⟩=some (.int .i64 self.k)/\V.drew.cell? ⟨w2.heap.size,1,none⟩=some (.int .i64 self.n):=⟨m7,m1,x0,x1,x2,x3,x4,s0,s1⟩
 have htm:¬ (T3 mb=3):=by rw[hM3.tag];omega
 have htx:¬ (T3 w.heap.size=3):=by rw[hz6];omega
 have hts:¬ (T3 w2.heap.size=3):=by rw[hz7];omega
 have hcf:=hC.lcf;have tokA:True:=trivial
 go_region_held3 (fun w'=>w'.cell? ⟨mb,7,none⟩=some (.func (.func LF) #[] lc)/\w'.cell? ⟨mb,1,none⟩=some (.slice (some ⟨g,0,none⟩) m.heap.length ch)/\w'.cell? ⟨w.heap.size,0,none⟩=some (.int .i64 x.op)/\w'.cell? ⟨w.heap.size,1,none⟩=some (.int .i64 x.a)/\w'.cell? ⟨w.heap.size,2,none⟩=some (.int .i64 x.b)/\w'.cell? ⟨w.heap.size,3,none⟩=some (.int .i64 x.c)/\w'.cell? ⟨w.heap.size,4,none⟩=some (.string x.name)/\w'.cell? ⟨w2.heap.size,0,none⟩=some (.int .i64 self.k)/\w'.cell? ⟨w2.heap.size,1,none⟩=some (.int .i64 self.n))
  (first | with_reducible exact hS0 | with_reducible exact hS1 | with_reducible exact hS2 | with_reducible exact hS3)
  (first
   | (have _t:=tokA;go_at_call 123;refine hsite.mono ?_;rintro e w3 ⟨rfl,hb3⟩;have hS1:=xr0 hS0 hb3;clear tokA;have tokB:True:=trivial)
   | (have _t:=tokB;go_at_call 62;refine (hcls _ hb3).mono ?_;rintro e w4 ⟨rfl,hb4⟩;have hS2:=xr0 hS1 hb4;have hb34:=xaf hb3 hb4;clear tokB;have tokC:True:=trivial)
   | (have _t:=tokC;refine (hlook _ hb34).mono ?_;rintro e w5 ⟨rfl,⟨T5,hX5,hL5⟩,hK5⟩;have hS3:=xrZ (xr0 hS0 hb34) hK5 htm htx hts;clear tokC))
 have hM5:=((hM3.later hb34).keep hX5 hK5 (by omega) (by omega) (by omega)).st (p.E.look m.st st0 c0 x.name).1
 have hF5:=(hF3.later hb34).keep hX5 hK5 (by omega) (by omega) (by omega) (by omega)
 have hA5:=(hA3.fx xa1 (.refl _ _) (Kp.of_below (S:=fun _=>False) hb34) id).fx xa1 hX5 hK5 (by omega)
 have HE5:=hid (HE3.out.trans (qzD HK3.out.size hb34.size) hX5);have HK5:=hid ((HK3.out.on hb34).trans HE3.out (hK5.mono (S':=All K) fun t h=>Or.inr (Or.inr (Or.inl h))))
 obtain⟨-,-,-,-,-,-,-,s0',s1'⟩:=hS3;clear hS0 hS1 hS2 m7 m1 x0 x1 x2 x3 x4 s0 s1 hsite hcls hlook hM3 hF3 hL3 hA3 hR3 hb3 hb4 hb34 hX5 hK5;generalize p.E.look m.st st0 c0 x.name=l at *;have hI5:MIn p.E { m with st:=l.1 }:=⟨hI.heap,hI.sz_,hI.tz⟩
 have hent:=hEn (K+3) T5 w5 mb _ _ _ _ l.2.1 l.2.2 self args _ (by omega) hM5 hL5 hI5 HSelf.out HArgs.out hA5
 generalize xa4 p.E d { m with st:=l.1 } l.2.1 l.2.2 self args=r at *
 go_wp2_with fail;refine hent.mono ?_;rintro e w6 ⟨rfl,⟨T6,hX6,⟨hv6,g6,s6,hM6⟩,hL6⟩,hK6⟩;have hF6:=hF5.keep hX6 hK6 (by unfold All;omega) (by unfold All;omega) (by unfold All;omega) (by unfold All;omega)
 have HE6:=hid (HE5.out.trans HK5.out.size hX6);have HK6:=hid (HK5.out.trans HE5.out (hK6.mono (S':=All K) fun t h=>by unfold All at *;omega))
 obtain⟨r1,v,er⟩:=r;simp only at HS hM6 hL6;clear hent hM5 hF5 hA5 hL5 hX6 hK6
 by_cases her:er=0
 ·subst her;rw[if_neg (by simp)] at HS
  rw[if_pos rfl] at hL6;have hbz:Below w6.heap.size w6 (w6.alloc (.cells #[.int .i64 v.k,.int .i64 v.n] 27)):=xak _ _;have hM7:=hM6.later hbz;have hF7:=hF6.later hbz;have hL7:=hC.keep hL6 (.refl _ _) (Kp.of_below (S:=fun _=>False) hbz) id id
  have HK7:=hid (HK6.out.on hbz);clear hM6 hF6 hL6;go_wp2_with fail;refine (xew hF7 v (by show rest.length<_;have:=HLen.out;omega)).mono ?_
  rintro e w8 ⟨rfl,⟨T8,sv8,hX8,hF8⟩,hK8⟩;have hM8:=hM7.keep hX8 hK8 (by omega) (by omega) (by omega)
  have hL8:=hC.keep hL7 hX8 hK8 (by omega) (by omega)
  have Q:Hid (StPost p L T w mb (20-(d:Int)) K fb (r1,{ f with stack:=rest++[v] },0) (.returned (.int .i64 0)) w8):=
   ⟨rfl,⟨T8,HE6.out.trans HK7.out.size hX8,⟨_,_,_,hM8⟩,by rw[if_pos rfl];exact hL8,fun _=>⟨_,_,_,_,_,hF8⟩⟩,HK7.out.trans HE6.out (hK8.mono fun t h=>by unfold All;omega)⟩
  clear hM7 hF7 hL7 hM8 hL8 hF8 hX8 hK8;go_wp2
  go_ret
  rw[HS.out]
  exact Q.out
 ·rw[if_pos her] at HS;rw[if_neg her] at hL6;have her':(er != 0)=true:=by simpa using her
  have Q:Hid (StPost p L T w mb (20-(d:Int)) K fb (r1,f,er) (.returned (.int .i64 er)) (w6.alloc (.cells #[.int .i64 v.k,.int .i64 v.n] 27))):=
   ⟨rfl,⟨T6,HE6.out,⟨_,_,_,hM6.later (xak _ _)⟩,by rw[if_neg her];exact hC.keep hL6 (.refl _ _) (Kp.of_below (S:=fun _=>False) (xak _ _)) id id,fun h=>absurd h her⟩,HK6.out.on (xak _ _)⟩
  clear hM6 hF6 hL6;go_wp2
  go_ret
  rw[HS.out]
  exact Q.out
end
theorem xi1 {P:Program}(w:World)(dT sT ty elem:TypeId)(sz g dl dCap:Nat)(sp:Option Addr)(sl sCap n:Nat)(cur:Array Value)(t:TypeId)(cs:List Value)
  (hu:P.underlying dT=some (.slice elem)) (hs:(P.info? elem).map (·.size)=some sz) (hg:w.heap[g]?=some (.cells cur t (0,0))) (hmn:Nat.min sl dl=n) (hn:cs.length=n*sz)
  (hsrc:∀ j v,cs[j]?=some v->∃ a,sp=some a/\w.cell? (a.add j)=some v) (hcur:cur.size=dl*sz) (h1:∀ v∈cs,v.oneCell'=true) :
  (Builtin.copy_ #[dT,sT] ty #[.slice (some ⟨g,0,none⟩) dl dCap,.slice sp sl sCap]).run P w=.ok (goInt n) (w.setRow g (cs++cur.toList.drop cs.length).toArray):=by
 cases hq:P.info? elem with
 | none=>simp[hq] at hs
 | some i=>
  have hi:i.size=sz:=by simpa [hq] using hs
  have hle:cs.length<=cur.size:=by rw[hn,hcur];exact Nat.mul_le_mul_right _ (by rw[← hmn];exact Nat.min_le_right _ _)
  have hst:=run_storeCells_at P g 0 t cs 0 cur w hg (by simp;omega) h1
  have hfc:(Builtin.firstCells sz n (.slice sp sl sCap)).run P w=.ok cs.toArray w:=by
   cases sp with
   | some a=>exact run_firstCells_some w sz n a sl sCap cs hn (fun j v hv=>by obtain⟨a',e,h⟩:=hsrc j v hv;cases e;exact h)
   | none=>
    have:cs=[]:=by
     cases cs with
     | nil=>rfl
     | cons c r=>obtain⟨a',e,_⟩:=hsrc 0 c rfl;cases e
    rw[this]
    exact run_firstCells_none w sz n sl sCap
  have e:(cur.toList.take (0+0)++cs++cur.toList.drop (0+0+cs.length)).toArray=(cs++cur.toList.drop cs.length).toArray:=by simp
  rw[e] at hst
  simp[Builtin.copy_,run_underlying hu,Builtin.lenOf,sizeOf,typeInfo,hq,hi,hmn,hfc,hst]
theorem xjM (n:Int)(l:List QV):xam ((xaG n).zipIdx.map fun p=>(l[p.2]?).getD xaU)=(xam (l.take (Nat.min l.length (xaG n).length)))++(xam (xaG n)).drop (xam (l.take (Nat.min l.length (xaG n).length))).length:=by
 unfold xaG;generalize (min (max n 0) 40).toNat=k;rw[List.length_replicate,xbA,List.length_take,xgd,← xcA]
 congr 1
 apply List.ext_getElem?
 intro j;simp only[List.getElem?_map,List.getElem?_zipIdx,List.getElem?_append,List.length_take,List.getElem?_take,List.getElem?_drop,List.getElem?_replicate,Nat.zero_add];have hmin:Nat.min l.length k=min l.length k:=rfl;rw[hmin]
 by_cases hj:j<k
 ·simp only[hj,if_true,Option.map_some]
  by_cases hl:j<l.length
  ·rw[if_pos (by omega),if_pos (by omega)]
   simp[hl]
  ·rw[if_neg (by omega),if_pos (by omega),List.getElem?_eq_none (by omega)]
   rfl
 ·simp only[hj,if_false,Option.map_none];rw[if_neg (by omega),if_neg (by omega)]
section
variable {T T':Nat->Nat} {K:Nat} {w w':World} {fb:Nat} {f:Fr} {cv av tv sv kv:Value}
theorem xoH (h:w.heap[fb]?=some (FB f cv av tv sv kv))(tv':Value)(a:Int):((((w.setCell ⟨fb,11,none⟩ cv).setCell ⟨fb,9,none⟩ tv').setCell ⟨fb,12,none⟩ (.int .i64 a)).setCell ⟨fb,13,none⟩ (.bool false)).heap[fb]?=some (FB (f.leave a) cv av tv' sv cv):=by
 rw[xag (xag (xag (xag h _) _) _) _];rfl
theorem xhx (h:FrAt T K w fb f cv av tv sv kv)(a:Int):Calls Try.prog 124 #[.pointer (some ⟨fb,0,none⟩),.int .i64 a] w fun e w'=>e=.returned (.tuple #[])/\(∃ T' tv',Ext T T' w/\FrAt T' K w' fb (f.leave a) cv av tv' sv cv)/\Kp (fun t=>t=K) T w w':=by
 have hlt:=xal h.box;have hp:=h.pos;have H:=hid h;have c3:w.cell? ⟨fb,3,none⟩=some (.int .i64 f.meth.temps):=by rw[qzB h.box];rfl
 obtain⟨tb,htv,ht2,ht3,ht4⟩:=h.temps;subst htv;obtain⟨ac,cc,hcv,-⟩:=id h.meth;subst hcv;clear h;go_enter Try.func124,Try.ntmps124;go_wp2_with fail;refine (xfW f.meth.temps _).mono ?_;rintro e w1 ⟨nb,rfl,hnb,hgt,hb1⟩;have hx1:=xad H.out.box hb1;have d9:w1.cell? ⟨fb,9,none⟩=some (.slice (some ⟨tb,0,none⟩) f.temps.length f.temps.length):=by rw[qzB hx1];rfl
 have htl:tb<w.heap.size:=xal ht2;have ht1:=xad ht2 hb1
 have hcopy:=xi1 (P:=Try.prog) w1 28 28 3 27 2 nb (xaG f.meth.temps).length (xaG f.meth.temps).length (some ⟨tb,0,none⟩) f.temps.length f.temps.length _ _ 27 (xam (f.temps.take (Nat.min f.temps.length (xaG f.meth.temps).length))) Try.underlying28 (by kernel_rfl) hnb rfl (by rw[xbA,List.length_take];congr 1;exact Nat.min_eq_left (Nat.min_le_left _ _)) (fun j v hv=>⟨⟨tb,0,none⟩,rfl,by
  rw[← xeo,List.getElem?_take] at hv
  split at hv
  ·rw[show (⟨tb,0,none⟩:Addr).add j=⟨tb,j,none⟩ by simp[Addr.add];intro h;omega,qzB ht1]
   simpa using hv
  ·cases hv⟩) (by simp[xbA]) (xg9 _)
 rw[List.toList_toArray,← xjM] at hcopy;have hne:nb≠fb:=by omega
 obtain⟨w2,n2,hcp,hn2,hx2,hk2⟩:∃ (w2:World) (n2:Nat),(Builtin.copy_ #[28,28] 3 #[.slice (some ⟨nb,0,none⟩) (xaG f.meth.temps).length (xaG f.meth.temps).length,.slice (some ⟨tb,0,none⟩) f.temps.length f.temps.length]).run Try.prog w1=.ok (goInt n2) w2/\w2.heap[nb]?=some (.cells (xam (f.leave a).temps).toArray 27 (0,0))/\(∀ b,b≠nb->w2.heap[b]?=w1.heap[b]?)/\Below w.heap.size w w2:=
  ⟨_,_,hcopy,setRow_heap w1 nb _ _ 27 (0,0) hnb,fun b hb=>setRow_other w1 nb b _ hb,below_setRow hb1 hgt _⟩
 clear hcopy;have hbx:w2.heap[fb]?=some (FB f (.slice ac f.meth.code.length cc) av (.slice (some ⟨tb,0,none⟩) f.temps.length f.temps.length) sv kv):=(hx2 fb hne.symm).trans hx1;have e5:w2.cell? ⟨fb,5,none⟩=some (.slice ac f.meth.code.length cc):=by rw[qzB hbx];rfl
 have e9:w2.cell? ⟨fb,9,none⟩=some (.slice (some ⟨tb,0,none⟩) f.temps.length f.temps.length):=by rw[qzB hbx];rfl
 have e11:w2.cell? ⟨fb,11,none⟩=some kv:=by rw[qzB hbx];rfl
 have e12:w2.cell? ⟨fb,12,none⟩=some (.int .i64 f.pc):=by rw[qzB hbx];rfl
 have e13:w2.cell? ⟨fb,13,none⟩=some (.bool f.fast):=by rw[qzB hbx];rfl
 have ef:=xap hbx;have HL:Hid ((xaG f.meth.temps).length=(f.leave a).temps.length):=by show _=_;simp[Fr.leave]
 have HN2:=hid hn2;have HX2:=hid hx2;have HB:=hid hbx;have HB1:=hid hb1;have HK2:=hid hk2;have HGT:=hid hgt;clear ht2 c3 ht1 hnb hx1 hn2 hx2 hbx hb1 hk2 hgt ht4;generalize (xaG f.meth.temps).length=rl at *;go_wp2;have hrl:=HL.out;subst hrl;have h:=H.out;have e:Ext T (xjd T nb (K+1)) w:=xez HGT.out;have k:Kp (fun t=>t=K) T w ((((w2.setCell ⟨fb,11,none⟩ (.slice ac f.meth.code.length cc)).setCell ⟨fb,9,none⟩ (.slice (some ⟨nb,0,none⟩) (f.leave a).temps.length (f.leave a).temps.length)).setCell ⟨fb,12,none⟩ (.int .i64 a)).setCell ⟨fb,13,none⟩ (.bool false)):=(((((Kp.of_below HK2.out).set (fun _=>h.tag) _ _).set (fun _=>h.tag) _ _).set (fun _=>h.tag) _ _).set (fun _=>h.tag) _ _)
 have hnb:((((w2.setCell ⟨fb,11,none⟩ (.slice ac f.meth.code.length cc)).setCell ⟨fb,9,none⟩ (.slice (some ⟨nb,0,none⟩) (f.leave a).temps.length (f.leave a).temps.length)).setCell ⟨fb,12,none⟩ (.int .i64 a)).setCell ⟨fb,13,none⟩ (.bool false)).heap[nb]?=some (.cells (xam (f.leave a).temps).toArray 27 (0,0)):=by
  rw[xac hne,xac hne,xac hne,xac hne]
  exact HN2.out
 refine bodyPost_end (v:=.tuple #[]) (by simp[results,Try.results124,go_sem]) rfl ⟨rfl,⟨xjd T nb (K+1),_,e,⟨xoH HB.out _ a,by rw[e _ hlt];exact h.tag,h.args.fx xa1 e k (by omega),⟨nb,rfl,hnb,xdI _ _ _,?_⟩,h.stack.keep fun g hg=>k.blk g (h.stack.lt g hg).2 (by rw[h.stag g hg];omega),fun g hg=>by rw[e _ (h.stack.lt g hg).2];exact h.stag g hg,h.few,h.meth.fx xa2 e k (by omega),h.meth.fx xa2 e k (by omega),hp⟩⟩,k⟩
 show (f.leave a).temps.length<=40
 have:=xfl f.meth.temps
 simpa [Fr.leave] using this
end
end Go.Proofs.Ytdfbgpiikeheiaa
