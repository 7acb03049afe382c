import Derived.Test.YtbafokihegegiaaGreatDoorU25
import Derived.Laws.IdiomStrings
namespace Go.Proofs.YtbafokihegegiaaGreatDoor
open ChangeShapes WideShapes ChangeAt RowKit
set_option linter.unusedSimpArgs false
set_option linter.unusedVariables false
set_option maxHeartbeats 8000000
set_option maxRecDepth 8000
theorem WrS.drew {bt:Nat}{l:List UInt8}{w:qW}(h:WrS bt l w):WrS bt l w.drew:=h.later (Br _ _).drew
structure WsB (w:qW)(bt bi:Nat)(cs:Array Value)(t:TypeId)(l:List UInt8)(w':qW):Prop where
 box:w'.heap[bi]?=some (.cells cs t (0,0))
 S:WrS bt l w'
 K:WrK bt w w'
theorem WsB.drew {w:qW}{bt bi:Nat}{cs:Array Value}{t:TypeId}{l:List UInt8}{w':qW}(h:WsB w bt bi cs t l w'):WsB w bt bi cs t l w'.drew:=⟨h.box,h.S.drew,h.K.drew⟩
theorem WsB.step {w:qW}{bt bi:Nat}{cs:Array Value}{t:TypeId}{l l':List UInt8}{w' w2:qW}(h:WsB w bt bi cs t l w')(c:WrS bt l' w2)(b:WrK bt w' w2)(d:t≠5)(a:bi≠bt):WsB w bt bi cs t l' w2:=
 ⟨b.cell h.box a d,c,h.K.trans b⟩
theorem Nl {w:qW}{bt:Nat}{l:List UInt8}(h:WrS bt l w)(cs:Array Value)(t:TypeId):WsB w bt w.heap.size cs t l (w.alloc (.cells cs t)):=
 ⟨BH w _,h.later (Bg _ _),WrK.of_below (Nat.le_of_lt h.lt) (Bg _ _)⟩
theorem WsB.c {w:qW}{bt bi:Nat}{cs:Array Value}{t:TypeId}{l:List UInt8}{w':qW}(h:WsB w bt bi cs t l w')(o:Nat):w'.cell? (O bi o)=cs[o]?:=Bn h.box
theorem xvX {bt:Nat}{l:List UInt8}{w:qW}(x:QI)(h:WrS bt l w)(B:ND x)(g:l.length+x.name.size+200<=140737488355328) :
  Calls Tryz.prog 244 #[qP bt,IV x] w λe w'=>e=.returned (.tuple #[])/\WrS bt (l++FT x) w'/\WrK bt w w':=by
 obtain⟨s,u,-,-,t⟩:=B;have y:=Eg s;have z:=Eg u;have q:=Nl h #[J x.op,J x.a,J x.b,J x.c,qZ x.name] 69;have n:w.heap.size≠bt:=by have:=h.lt;omega
 clear h;go_enter Tryz.func244,Tryz.ntmps244;go_upto_region 1 with (fail);generalize (w.alloc (qE x))=W0 at *;generalize w.heap.size=bi at *;have k:W0.drew.cell? (O bi 0)=some (J x.op):=q.drew.c 0
 go_region_held3 (λw'=>w'.cell? (O bi 0)=some (J x.op))
  (first | with_reducible exact k | with_reducible exact j)
  (first | (go_at_call 159;refine (Gy x.op q.drew.S s (by omega)).mono ?_;rintro e w1 ⟨rfl,d,f⟩;have m:=q.drew.step d f (by decide) n;have j:w1.cell? (O bi 0)=some (J x.op):=m.c 0))
 clear q k j d f;go_wp2_with (fail);have k:w1.drew.cell? (O bi 1)=some (J x.a):=m.drew.c 1
 go_region_held3 (λw'=>w'.cell? (O bi 1)=some (J x.a))
  (first | with_reducible exact k | with_reducible exact j)
  (first | (go_at_call 159;refine (Gy x.a m.drew.S u (by rw[List.length_append];omega)).mono ?_;rintro e w2 ⟨rfl,d,f⟩;have i:=m.drew.step d f (by decide) n;have j:w2.cell? (O bi 1)=some (J x.a):=i.c 1))
 clear m k j d f;have c0:w2.cell? (O bi 0)=some (J x.op):=i.c 0;by_cases h14:x.op=14
 ·have p:(x.op == 14)=true:=by simpa using h14
  have r:Hid (l++FT x=l++CQ x.op++CQ x.a++GX x.name):=by show _=_;unfold FT;rw[if_pos h14];simp
  clear h14 t;go_wp2_with (fail);have k:w2.drew.cell? (O bi 4)=some (qZ x.name):=i.drew.c 4
  go_region_held3 (λw'=>w'.cell? (O bi 4)=some (qZ x.name))
   (first | with_reducible exact k | with_reducible exact j)
   (first | (go_at_call 205;refine (xuG x.name i.drew.S (by rw[List.length_append,List.length_append];omega)).mono ?_;rintro e w3 ⟨rfl,d,f⟩;have o:=i.drew.step d f (by decide) n;have j:w3.cell? (O bi 4)=some (qZ x.name):=o.c 4))
  clear c0;go_wp2;refine bodyPost_end (v:=.tuple #[]) (by simp[results,Tryz.results244,go_sem]) rfl ⟨rfl,by rw[r.out];exact o.S,o.K⟩
 have p:(x.op == 14)=false:=by simpa using h14
 have r:Hid (l++FT x=l++CQ x.op++CQ x.a):=by show _=_;unfold FT;rw[if_neg h14];simp
 clear h14 t;go_wp2;refine bodyPost_end (v:=.tuple #[]) (by simp[results,Tryz.results244,go_sem]) rfl ⟨rfl,by rw[r.out];exact i.S,i.K⟩
theorem Qx {α:Type}{enc:α->List UInt8}{k n:Nat}{xs:List α}(d:xs.length<=n)(h:∀x∈xs,(enc x).length<=k)(j:Nat):(DH enc (xs.take j)).length<=n*k:=by
 have b:=xuN (enc:=enc) (k:=k) (xs:=xs.take j) (λx a=>h x (List.mem_of_mem_take a));have c:(xs.take j).length<=n:=by rw[List.length_take];omega
 exact BX b (Nat.mul_le_mul_right k c)
theorem PS {α:Type}{enc:α->List UInt8}{xs:List α}{j:Nat}{x:α}(a:xs[j]?=some x):DH enc (xs.take (j+1))=DH enc (xs.take j)++enc x:=by
 rw[List.take_add_one,a];simp[DH]
theorem NS {α:Type}{enc:α->List UInt8}{xs:List α}:DH enc (xs.take xs.length)=DH enc xs:=by rw[List.take_length]
theorem xvq {bt:Nat}{l:List UInt8}{w:qW}(x:QM)(cv:Value)(h:WrS bt l w)(hC:Cm (λb=>b<bt) w cv x.code)(hx:Qd x)(hs:xvK x)(u:l.length+10000<=140737488355328) :
  Calls Tryz.prog 206 #[qP bt,MV x cv] w λe w'=>e=.returned (.tuple #[])/\WrS bt (l++GC x) w'/\WrK bt w w':=by
 obtain⟨ad,cap,rfl,hl,q,B,m⟩:=id hC;unfold maxLen at q;obtain⟨-,U,X,Y,h4,V⟩:=hx;obtain⟨d,k⟩:=hs;have l1:=Eg U;have l2:=Eg X;have l3:=Eg Y;have l4:=Eg (n:=x.code.length) ⟨by omega,by omega⟩;have l5:=PG x.name;have Z:Hid (∀y∈x.code,(FT y).length<=57):=λy M=>xuZ (V y M) (k y M);have HT:=λj=>Qx (enc:=FT) h4 Z.out j;have HE:Hid (l++GC x=l++GX x.name++CQ x.args++CQ x.temps++CQ x.prim++CQ x.code.length++DH FT x.code):=by show _=_;unfold GC Hc;simp
 have W:Hid (∀y∈x.code,ND y/\MD y):=λy M=>⟨V y M,k y M⟩
 clear V k Z;generalize l++GC x=R at *;have D:=Nl h #[qZ x.name,J x.args,J x.temps,J x.prim,qS ad x.code.length cap] 51;have H:w.heap.size≠bt:=by have:=h.lt;omega
 clear h;go_enter Tryz.func206,Tryz.ntmps206;go_upto_region 1 with (fail);generalize (w.alloc (qD x ad cap))=W0 at *;generalize w.heap.size=bi at *;have F:W0.drew.cell? (O bi 0)=some (qZ x.name):=D.drew.c 0
 go_region_held3 (λw'=>w'.cell? (O bi 0)=some (qZ x.name))
  (first | with_reducible exact F | with_reducible exact G)
  (first | (go_at_call 205;refine (xuG (x.name) D.drew.S (by (try simp only[List.length_append]);omega)).mono ?_;rintro e w1 ⟨rfl,d,f⟩;have C:=D.drew.step d f (by decide) H;have G:w1.cell? (O bi 0)=some (qZ x.name):=C.c 0))
 replace D:=C;clear C F G d f;go_wp2_with (fail);have F:w1.drew.cell? (O bi 1)=some (J x.args):=D.drew.c 1
 go_region_held3 (λw'=>w'.cell? (O bi 1)=some (J x.args))
  (first | with_reducible exact F | with_reducible exact G)
  (first | (go_at_call 159;refine (Gy (x.args) D.drew.S (U) (by (try simp only[List.length_append]);omega)).mono ?_;rintro e w2 ⟨rfl,d,f⟩;have C:=D.drew.step d f (by decide) H;have G:w2.cell? (O bi 1)=some (J x.args):=C.c 1))
 replace D:=C;clear C F G d f;go_wp2_with (fail);have F:w2.drew.cell? (O bi 2)=some (J x.temps):=D.drew.c 2
 go_region_held3 (λw'=>w'.cell? (O bi 2)=some (J x.temps))
  (first | with_reducible exact F | with_reducible exact G)
  (first | (go_at_call 159;refine (Gy (x.temps) D.drew.S (X) (by (try simp only[List.length_append]);omega)).mono ?_;rintro e w3 ⟨rfl,d,f⟩;have C:=D.drew.step d f (by decide) H;have G:w3.cell? (O bi 2)=some (J x.temps):=C.c 2))
 replace D:=C;clear C F G d f;go_wp2_with (fail);have F:w3.drew.cell? (O bi 3)=some (J x.prim):=D.drew.c 3
 go_region_held3 (λw'=>w'.cell? (O bi 3)=some (J x.prim))
  (first | with_reducible exact F | with_reducible exact G)
  (first | (go_at_call 159;refine (Gy (x.prim) D.drew.S (Y) (by (try simp only[List.length_append]);omega)).mono ?_;rintro e w4 ⟨rfl,d,f⟩;have C:=D.drew.step d f (by decide) H;have G:w4.cell? (O bi 3)=some (J x.prim):=C.c 3))
 replace D:=C;clear C F G d f;go_wp2_with (fail);have F:w4.drew.cell? (O bi 4)=some (qS ad x.code.length cap):=D.drew.c 4
 go_region_held3 (λw'=>w'.cell? (O bi 4)=some (qS ad x.code.length cap))
  (first | with_reducible exact F | with_reducible exact G)
  (first | (go_at_call 159;refine (Gy ((x.code.length:Int)) D.drew.S (⟨by omega,by omega⟩) (by (try simp only[List.length_append]);omega)).mono ?_;rintro e w5 ⟨rfl,d,f⟩;have C:=D.drew.step d f (by decide) H;have G:w5.cell? (O bi 4)=some (qS ad x.code.length cap):=C.c 4))
 replace D:=C;clear C F G d f;have c4:w5.cell? (O bi 4)=some (qS ad x.code.length cap):=D.c 4;obtain⟨L,T⟩:∃L,L=l++GX x.name++CQ x.args++CQ x.temps++CQ x.prim++CQ x.code.length:=⟨_,rfl⟩;rw[← T] at D HE;have a3:L.length<=l.length+200:=by rw[T];simp only[List.length_append];omega
 clear T l1 l2 l3 l4 l5 U X Y;go_wp2_with (fail)
 go_loopg [40] x.code.length (λg i wr=>∃j:Nat,j+g=x.code.length/\i=J j/\WsB w bt bi #[qZ x.name,J x.args,J x.temps,J x.prim,qS ad x.code.length cap] 51 (L++DH FT (x.code.take j)) wr)
 case atStart=>exact⟨0,by omega,rfl,by simpa [DH] using D⟩
 case round=>
  clear D c4;obtain⟨j,hg,rfl,D⟩:=hrel;by_cases hj:j<x.code.length
  ·have a0:(j:Int)<(x.code.length:Int):=by omega
   have a1:(0:Int)<=(j:Int):=by omega
   obtain⟨y,M⟩:∃y,x.code[j]?=some y:=⟨_,List.getElem?_eq_getElem hj⟩;obtain⟨b,o,rfl,s,v0,v1,v2,v3,v4,z⟩:=m j y M;simp only[Nat.add_zero] at v0;have kc:=λ(o:Nat)=>D.K.bel.cell (p:=(O b o)) s;replace v0:=(kc _).trans v0;replace v1:=(kc _).trans v1;replace v2:=(kc _).trans v2;replace v3:=(kc _).trans v3;replace v4:=(kc _).trans v4;clear kc;have HY:=hid (PS (enc:=FT) M);obtain⟨t,r⟩:=W.out y (List.mem_of_getElem? M);have a2:=HT j;have N:WsB w bt bi _ 51 _ (wr.alloc (qE y)):=D.step (D.S.later (Bg _ _)) (WrK.of_below (Nat.le_of_lt D.S.lt) (Bg _ _)) (by decide) H;unfold MD at r;clear M;go_wp2_with (go_at_call 244;refine (xvX y N.S t (by (try simp only[List.length_append]);omega)).mono ?_;rintro e w6 ⟨rfl,d,f⟩;refine Hid.out ?_);refine Lib.hid ?_;have Q:=N.step d f (by decide) H;rw[List.append_assoc,← HY.out] at Q;clear N D d f v0 v1 v2 v3 v4;go_wp2;go_roundg (gk-1)
   case measure=>omega
   case rel=>exact⟨j+1,by omega,by go_num,Q⟩
  obtain rfl:j=x.code.length:=by omega
  rw[NS] at D;go_wp2;refine bodyPost_end (v:=.tuple #[]) (by simp[results,Tryz.results206,go_sem]) rfl ⟨rfl,by rw[HE.out];exact D.S,D.K⟩
theorem WrK.keeps {bt:Nat}{w w':qW}(h:WrK bt w w'):Keeps (λb=>b<bt) w w':=λb o v a hv=>(h.bel.cell (p:=(O b o)) a).trans hv
theorem xvZ {bt:Nat}{l:List UInt8}{w:qW}(x:QC)(mv:Value)(h:WrS bt l w)(hC:EC (λb=>b<bt) w mv x.mz)(hx:QP x)(hs:QD x)(t:l.length+100000<=140737488355328) :
  Calls Tryz.prog 160 #[qP bt,CV x mv] w λe w'=>e=.returned (.tuple #[])/\WrS bt (l++Gk x) w'/\WrK bt w w':=by
 obtain⟨ad,cap,rfl,hl,m,z,k⟩:=id hC;unfold maxLen at m;obtain⟨-,U,X,h4,V⟩:=hx;obtain⟨a,f⟩:=hs;have l1:=Eg U;have l2:=Eg X;have l4:=Eg (n:=x.mz.length) ⟨by omega,by omega⟩;have l5:=PG x.name;have Z:Hid (∀y∈x.mz,(GC y).length<=3600):=λy H=>xu9 (V y H) (f y H);have HT:=λj=>Qx (enc:=GC) h4 Z.out j;have HE:Hid (l++Gk x=l++GX x.name++CQ x.super++CQ x.slots++CQ x.mz.length++DH GC x.mz):=by show _=_;unfold Gk Hc;simp
 have W:Hid (∀y∈x.mz,Qd y/\xvK y):=λy H=>⟨V y H,f y H⟩
 clear V f Z;generalize l++Gk x=R at *;have C:=Nl h #[qZ x.name,J x.super,J x.slots,qS ad x.mz.length cap] 80;have G:w.heap.size≠bt:=by have:=h.lt;omega
 clear h;go_enter Tryz.func160,Tryz.ntmps160;go_upto_region 1 with (fail);generalize (w.alloc (qC #[qZ x.name,J x.super,J x.slots,qS ad x.mz.length cap] 80))=W0 at *;generalize w.heap.size=bi at *;have D:W0.drew.cell? (O bi 0)=some (qZ x.name):=C.drew.c 0
 go_region_held3 (λw'=>w'.cell? (O bi 0)=some (qZ x.name))
  (first | with_reducible exact D | with_reducible exact F)
  (first | (go_at_call 205;refine (xuG (x.name) C.drew.S (by (try simp only[List.length_append]);omega)).mono ?_;rintro e w1 ⟨rfl,a,d⟩;have B:=C.drew.step a d (by decide) G;have F:w1.cell? (O bi 0)=some (qZ x.name):=B.c 0))
 replace C:=B;clear B D F a d;go_wp2_with (fail);have D:w1.drew.cell? (O bi 1)=some (J x.super):=C.drew.c 1
 go_region_held3 (λw'=>w'.cell? (O bi 1)=some (J x.super))
  (first | with_reducible exact D | with_reducible exact F)
  (first | (go_at_call 159;refine (Gy (x.super) C.drew.S (U) (by (try simp only[List.length_append]);omega)).mono ?_;rintro e w2 ⟨rfl,a,d⟩;have B:=C.drew.step a d (by decide) G;have F:w2.cell? (O bi 1)=some (J x.super):=B.c 1))
 replace C:=B;clear B D F a d;go_wp2_with (fail);have D:w2.drew.cell? (O bi 2)=some (J x.slots):=C.drew.c 2
 go_region_held3 (λw'=>w'.cell? (O bi 2)=some (J x.slots))
  (first | with_reducible exact D | with_reducible exact F)
  (first | (go_at_call 159;refine (Gy (x.slots) C.drew.S (X) (by (try simp only[List.length_append]);omega)).mono ?_;rintro e w3 ⟨rfl,a,d⟩;have B:=C.drew.step a d (by decide) G;have F:w3.cell? (O bi 2)=some (J x.slots):=B.c 2))
 replace C:=B;clear B D F a d;go_wp2_with (fail);have D:w3.drew.cell? (O bi 3)=some (qS ad x.mz.length cap):=C.drew.c 3
 go_region_held3 (λw'=>w'.cell? (O bi 3)=some (qS ad x.mz.length cap))
  (first | with_reducible exact D | with_reducible exact F)
  (first | (go_at_call 159;refine (Gy ((x.mz.length:Int)) C.drew.S (⟨by omega,by omega⟩) (by (try simp only[List.length_append]);omega)).mono ?_;rintro e w4 ⟨rfl,a,d⟩;have B:=C.drew.step a d (by decide) G;have F:w4.cell? (O bi 3)=some (qS ad x.mz.length cap):=B.c 3))
 replace C:=B;clear B D F a d;have c3:w4.cell? (O bi 3)=some (qS ad x.mz.length cap):=C.c 3;obtain⟨L,T⟩:∃L,L=l++GX x.name++CQ x.super++CQ x.slots++CQ x.mz.length:=⟨_,rfl⟩;rw[← T] at C HE;have a3:L.length<=l.length+200:=by rw[T];simp only[List.length_append];omega
 clear T l1 l2 l4 l5 U X;go_wp2_with (fail)
 go_loopg [34] x.mz.length (λg i wr=>∃j:Nat,j+g=x.mz.length/\i=J j/\WsB w bt bi #[qZ x.name,J x.super,J x.slots,qS ad x.mz.length cap] 80 (L++DH GC (x.mz.take j)) wr)
 case atStart=>exact⟨0,by omega,rfl,by simpa [DH] using C⟩
 case round=>
  clear C c3;obtain⟨j,hg,rfl,C⟩:=hrel;by_cases hj:j<x.mz.length
  ·have a0:(j:Int)<(x.mz.length:Int):=by omega
   have a1:(0:Int)<=(j:Int):=by omega
   obtain⟨y,H⟩:∃y,x.mz[j]?=some y:=⟨_,List.getElem?_eq_getElem hj⟩;obtain⟨b,o,rfl,r,v0,v1,v2,v3,u,kv,v4,Y⟩:=k j y H;simp only[Nat.add_zero] at v0;have kc:=λ(o:Nat)=>C.K.bel.cell (p:=(O b o)) r;replace v0:=(kc _).trans v0;replace v1:=(kc _).trans v1;replace v2:=(kc _).trans v2;replace v3:=(kc _).trans v3;replace v4:=(kc _).trans v4;clear kc;have HY:=hid (PS (enc:=GC) H);obtain⟨s,q⟩:=W.out y (List.mem_of_getElem? H);have a2:=HT j;obtain⟨ak,ck,rfl⟩:=Y.get;have M:WsB w bt bi _ 80 _ (wr.alloc (qD y ak ck)):=C.step (C.S.later (Bg _ _)) (WrK.of_below (Nat.le_of_lt C.S.lt) (Bg _ _)) (by decide) G;have N:=Y.keep BR M.K.keeps λ_ h=>h;clear H Y;go_wp2_with (go_at_call 206;refine (xvq y _ M.S N s q (by simp only[List.length_append];omega)).mono ?_;rintro e w6 ⟨rfl,a,d⟩;refine Hid.out ?_);refine Lib.hid ?_;have Q:=M.step a d (by decide) G;rw[List.append_assoc,← HY.out] at Q;clear M C a d v0 v1 v2 v3 v4 N;go_wp2;go_roundg (gk-1)
   case measure=>omega
   case rel=>exact⟨j+1,by omega,by go_num,Q⟩
  obtain rfl:j=x.mz.length:=by omega
  rw[NS] at C;go_wp2;refine bodyPost_end (v:=.tuple #[]) (by simp[results,Tryz.results160,go_sem]) rfl ⟨rfl,by rw[HE.out];exact C.S,C.K⟩
abbrev OV (x:QO)(sv:Value):Value:=.agg #[J x.cls,sv]
theorem xwU {v:QV}(h:Qq v):(Gz v).length<=44:=by
 have a:=Eg h.1;have b:=Eg h.2;unfold Gz;rw[List.length_append];omega
theorem xvv {bt:Nat}{l:List UInt8}{w:qW}(x:QO)(sv:Value)(h:WrS bt l w)(hC:CG (λb=>b<bt) w sv x.slots)(hx:PN x)(t:l.length+1000<=140737488355328) :
  Calls Tryz.prog 161 #[qP bt,OV x sv] w λe w'=>e=.returned (.tuple #[])/\WrS bt (l++GH x) w'/\WrK bt w w':=by
 obtain⟨ad,cap,rfl,hl,q,u,f⟩:=id hC;unfold maxLen at q;obtain⟨T,h4,U⟩:=hx;have l1:=Eg T;have l4:=Eg (n:=x.slots.length) ⟨by omega,by omega⟩;have W:Hid (∀y∈x.slots,(Gz y).length<=44):=λy H=>xwU (U y H);have HT:=λj=>Qx (enc:=Gz) h4 W.out j;have X:Hid (l++GH x=l++CQ x.cls++CQ x.slots.length++DH Gz x.slots):=by show _=_;unfold GH Hc;simp
 have V:Hid (∀y∈x.slots,Qq y):=U;clear U W;generalize l++GH x=R at *;have D:=Nl h #[J x.cls,qS ad x.slots.length cap] 84;have G:w.heap.size≠bt:=by have:=h.lt;omega
 clear h;go_enter Tryz.func161,Tryz.ntmps161;go_upto_region 1 with (fail);generalize (w.alloc (qC #[J x.cls,qS ad x.slots.length cap] 84))=W0 at *;generalize w.heap.size=bi at *;have B:W0.drew.cell? (O bi 0)=some (J x.cls):=D.drew.c 0
 go_region_held3 (λw'=>w'.cell? (O bi 0)=some (J x.cls))
  (first | with_reducible exact B | with_reducible exact C)
  (first | (go_at_call 159;refine (Gy (x.cls) D.drew.S (T) (by (try simp only[List.length_append]);omega)).mono ?_;rintro e w1 ⟨rfl,d,a⟩;have z:=D.drew.step d a (by decide) G;have C:w1.cell? (O bi 0)=some (J x.cls):=z.c 0))
 replace D:=z;clear z B C d a;go_wp2_with (fail);have B:w1.drew.cell? (O bi 1)=some (qS ad x.slots.length cap):=D.drew.c 1
 go_region_held3 (λw'=>w'.cell? (O bi 1)=some (qS ad x.slots.length cap))
  (first | with_reducible exact B | with_reducible exact C)
  (first | (go_at_call 159;refine (Gy ((x.slots.length:Int)) D.drew.S (⟨by omega,by omega⟩) (by (try simp only[List.length_append]);omega)).mono ?_;rintro e w2 ⟨rfl,d,a⟩;have z:=D.drew.step d a (by decide) G;have C:w2.cell? (O bi 1)=some (qS ad x.slots.length cap):=z.c 1))
 replace D:=z;clear z B C d a;have c1:w2.cell? (O bi 1)=some (qS ad x.slots.length cap):=D.c 1;obtain⟨L,Q⟩:∃L,L=l++CQ x.cls++CQ x.slots.length:=⟨_,rfl⟩;rw[← Q] at D X;have a1:L.length<=l.length+200:=by rw[Q];simp only[List.length_append];omega
 clear Q l1 l4 T;go_wp2_with (fail)
 go_loopg [22] x.slots.length (λg i wr=>∃j:Nat,j+g=x.slots.length/\i=J j/\WsB w bt bi #[J x.cls,qS ad x.slots.length cap] 84 (L++DH Gz (x.slots.take j)) wr)
 case atStart=>exact⟨0,by omega,rfl,by simpa [DH] using D⟩
 case round=>
  clear D c1;obtain⟨j,hg,rfl,D⟩:=hrel;by_cases hj:j<x.slots.length
  ·have Y:(j:Int)<(x.slots.length:Int):=by omega
   have Z:(0:Int)<=(j:Int):=by omega
   obtain⟨y,H⟩:∃y,x.slots[j]?=some y:=⟨_,List.getElem?_eq_getElem hj⟩;obtain⟨b,o,rfl,s,v0,v1⟩:=f j y H;simp only[Nat.add_zero] at v0;have kc:=λ(o:Nat)=>D.K.bel.cell (p:=(O b o)) s;replace v0:=(kc _).trans v0;replace v1:=(kc _).trans v1;clear kc;have HY:=hid (PS (enc:=Gz) H);obtain⟨m,r⟩:=V.out y (List.mem_of_getElem? H);have a0:=HT j;have ly1:=Eg m;have F:=Nl D.S #[J y.k,J y.n] 41;have M:wr.heap.size≠bt:=by have:=D.S.lt;omega
   clear H;go_upto_region 6 with (fail);generalize (wr.alloc (qH y))=W3 at *;generalize wr.heap.size=bv at *;clear v0 v1;have B:W3.drew.cell? (O bv 0)=some (J y.k):=F.drew.c 0
   go_region_held3 (λw'=>w'.cell? (O bv 0)=some (J y.k))
    (first | with_reducible exact B | with_reducible exact C)
    (first | (go_at_call 159;refine (Gy (y.k) F.drew.S (m) (by (try simp only[List.length_append]);omega)).mono ?_;rintro e w3 ⟨rfl,d,a⟩;have z:=F.drew.step d a (by decide) M;have C:w3.cell? (O bv 0)=some (J y.k):=z.c 0))
   replace F:=z;clear z B C d a;go_wp2_with (fail);have B:w3.drew.cell? (O bv 1)=some (J y.n):=F.drew.c 1
   go_region_held3 (λw'=>w'.cell? (O bv 1)=some (J y.n))
    (first | with_reducible exact B | with_reducible exact C)
    (first | (go_at_call 159;refine (Gy (y.n) F.drew.S (r) (by (try simp only[List.length_append]);omega)).mono ?_;rintro e w4 ⟨rfl,d,a⟩;have z:=F.drew.step d a (by decide) M;have C:w4.cell? (O bv 1)=some (J y.n):=z.c 1))
   replace F:=z;clear z B C d a;have N:=D.step F.S F.K (by decide) G;have e2:L++DH Gz (x.slots.take j)++CQ y.k++CQ y.n=L++DH Gz (x.slots.take (j+1)):=by rw[HY.out];unfold Gz;simp
   rw[e2] at N;clear F D e2;go_wp2;go_roundg (gk-1)
   case measure=>omega
   case rel=>exact⟨j+1,by omega,by go_num,N⟩
  obtain rfl:j=x.slots.length:=by omega
  rw[NS] at D;go_wp2;refine bodyPost_end (v:=.tuple #[]) (by simp[results,Tryz.results161,go_sem]) rfl ⟨rfl,by rw[X.out];exact D.S,D.K⟩
section
variable {α:Type} {E:CT α} {sz bytes:Nat} {P:Nat->Prop} {w:World} {v:Value} {xs:List α} {f:Nat->Option Value}
theorem IsRow.lt (G:Good E sz)(k:∀f x,E P w f x->E (λb=>b<w.heap.size) w f x)(h:IsRow E sz bytes P w v xs):IsRow E sz bytes (λb=>b<w.heap.size) w v xs:=by
 obtain⟨ad,cap,a,e,l,c,d⟩:=h;refine⟨ad,cap,a,e,l,c,λi x j=>?_⟩;obtain⟨b,o,e1,e2,e3⟩:=d i x j;obtain⟨u,g,-⟩:=G.there e3 0 G.pos;exact⟨b,o,e1,World.block_lt_of_cell? w _ g,k _ _ e3⟩
theorem ltI {x:QI}(h:KT P w f x):KT (λb=>b<w.heap.size) w f x:=h
theorem ltV {x:QV}(h:KY P w f x):KY (λb=>b<w.heap.size) w f x:=h
theorem ltM {x:QM}(h:Fk P w f x):Fk (λb=>b<w.heap.size) w f x:=by
 obtain⟨d,a,i,j,c,v,g,e⟩:=h;exact⟨d,a,i,j,c,v,g,e.lt BR λ_ _=>ltI⟩
theorem ltO {x:QO}(h:LG P w f x):LG (λb=>b<w.heap.size) w f x:=by
 obtain⟨a,v,c,d⟩:=h;exact⟨a,v,c,d.lt BZ λ_ _=>ltV⟩
theorem ltC {x:QC}(h:Kd P w f x):Kd (λb=>b<w.heap.size) w f x:=by
 obtain⟨d,a,i,c,v,g,e⟩:=h;exact⟨d,a,i,c,v,g,e.lt xbj λ_ _=>ltM⟩
end
theorem xvQ {bt:Nat}{l:List UInt8}{w:qW}(X:QW)(cv hv:Value)(h:WrS bt l w)(hC:BK (λb=>b<bt) w cv X.cz)(hH:BP (λb=>b<bt) w hv X.heap)(hx:xuA X)(hs:∀c∈X.cz,QD c)(u:l.length+2000000<=140737488355328) :
  Calls Tryz.prog 116 #[qP bt,WV cv hv X.ez] w λe w'=>e=.returned (.tuple #[])/\WrS bt (l++Ef X) w'/\WrK bt w w':=by
 obtain⟨ad,cap,rfl,hl,r,F,f⟩:=id hC;obtain⟨ah,ch,rfl,B,t,z,q⟩:=id hH;unfold maxLen at r t;obtain⟨h1,⟨h2,h3⟩,h4,h5⟩:=hx;have l1:=Eg h1;have l2:=Eg (n:=X.cz.length) ⟨by omega,by omega⟩;have l3:=Eg (n:=X.heap.length) ⟨by omega,by omega⟩;have HT:=λj=>Qx (enc:=Gk) h2 (λy Q=>xuY (h3 y Q) (hs y Q)) j;have a5:(DH Gk X.cz).length<=12*30000:=by have:=HT X.cz.length;rwa [NS] at this
 have a4:=λj=>Qx (enc:=GH) h4 (λy Q=>xvD (h5 y Q)) j;have HE:Hid (l++Ef X=l++CQ X.ez++CQ X.cz.length++DH Gk X.cz++CQ X.heap.length++DH GH X.heap):=by show _=_;unfold Ef Hc;simp
 have a6:Hid (∀y∈X.cz,QP y/\QD y):=λy Q=>⟨h3 y Q,hs y Q⟩
 have a3:Hid (∀y∈X.heap,PN y):=h5;clear h5 hs h3;generalize l++Ef X=R at *;have G:=Nl h #[qS ad X.cz.length cap,qS ah X.heap.length ch,J X.ez] 26;have U:w.heap.size≠bt:=by have:=h.lt;omega
 clear h;go_enter Tryz.func116,Tryz.ntmps116;go_upto_region 1 with (fail);generalize (w.alloc (qA ad cap ah ch X))=W0 at *;generalize w.heap.size=bi at *;have N:W0.drew.cell? (O bi 2)=some (J X.ez):=G.drew.c 2
 go_region_held3 (λw'=>w'.cell? (O bi 2)=some (J X.ez))
  (first | with_reducible exact N | with_reducible exact T)
  (first | (go_at_call 159;refine (Gy (X.ez) G.drew.S (h1) (by (try simp only[List.length_append]);omega)).mono ?_;rintro e w1 ⟨rfl,d,a⟩;have H:=G.drew.step d a (by decide) U;have T:w1.cell? (O bi 2)=some (J X.ez):=H.c 2))
 replace G:=H;clear H N T d a;go_wp2_with (fail);have N:w1.drew.cell? (O bi 0)=some (qS ad X.cz.length cap):=G.drew.c 0
 go_region_held3 (λw'=>w'.cell? (O bi 0)=some (qS ad X.cz.length cap))
  (first | with_reducible exact N | with_reducible exact T)
  (first | (go_at_call 159;refine (Gy ((X.cz.length:Int)) G.drew.S (⟨by omega,by omega⟩) (by (try simp only[List.length_append]);omega)).mono ?_;rintro e w2 ⟨rfl,d,a⟩;have H:=G.drew.step d a (by decide) U;have T:w2.cell? (O bi 0)=some (qS ad X.cz.length cap):=H.c 0))
 replace G:=H;clear H N T d a;have c1:w2.cell? (O bi 0)=some (qS ad X.cz.length cap):=G.c 0;obtain⟨L,HL⟩:∃L,L=l++CQ X.ez++CQ X.cz.length:=⟨_,rfl⟩;rw[← HL] at G HE;have a8:L.length<=l.length+100:=by rw[HL];simp only[List.length_append];omega
 clear HL l1 l2 h1;go_wp2_with (fail)
 go_loopg [24] X.cz.length (λg i wr=>∃j:Nat,j+g=X.cz.length/\i=J j/\WsB w bt bi #[qS ad X.cz.length cap,qS ah X.heap.length ch,J X.ez] 26 (L++DH Gk (X.cz.take j)) wr)
 case atStart=>exact⟨0,by omega,rfl,by simpa [DH] using G⟩
 case round=>
  clear G c1;obtain⟨j,hg,rfl,G⟩:=hrel;by_cases hj:j<X.cz.length
  ·have a0:(j:Int)<(X.cz.length:Int):=by omega
   have a1:(0:Int)<=(j:Int):=by omega
   obtain⟨y,Q⟩:∃y,X.cz[j]?=some y:=⟨_,List.getElem?_eq_getElem hj⟩;obtain⟨b,o,rfl,m,v0,v1,v2,D,kv,v4,Z⟩:=f j y Q;simp only[Nat.add_zero] at v0;have kc:=λ(o:Nat)=>G.K.bel.cell (p:=(O b o)) m;replace v0:=(kc _).trans v0;replace v1:=(kc _).trans v1;replace v2:=(kc _).trans v2;replace v4:=(kc _).trans v4;clear kc;have HY:=hid (PS (enc:=Gk) Q);obtain⟨Y,s⟩:=a6.out y (List.mem_of_getElem? Q);have a2:=HT j;obtain⟨ak,ck,rfl⟩:=Z.get;have M:WsB w bt bi _ 26 _ (wr.alloc (qC #[qZ y.name,J y.super,J y.slots,qS ak y.mz.length ck] 80)):=G.step (G.S.later (Bg _ _)) (WrK.of_below (Nat.le_of_lt G.S.lt) (Bg _ _)) (by decide) U;have V:=Z.keep xbj M.K.keeps λ_ h=>h;clear Q Z;go_wp2_with (go_at_call 160;refine (xvZ y _ M.S V Y s (by simp only[List.length_append];omega)).mono ?_;rintro e w6 ⟨rfl,d,a⟩;refine Hid.out ?_);refine Lib.hid ?_;have W:=M.step d a (by decide) U;rw[List.append_assoc,← HY.out] at W;clear M G d a v0 v1 v2 v4 V;go_wp2;go_roundg (gk-1)
   case measure=>omega
   case rel=>exact⟨j+1,by omega,by go_num,W⟩
  obtain rfl:j=X.cz.length:=by omega
  rw[NS] at G;go_wp2_with (fail);have N:wr.drew.cell? (O bi 1)=some (qS ah X.heap.length ch):=G.drew.c 1
  go_region_held3 (λw'=>w'.cell? (O bi 1)=some (qS ah X.heap.length ch))
   (first | with_reducible exact N | with_reducible exact T)
   (first | (go_at_call 159;refine (Gy ((X.heap.length:Int)) G.drew.S (⟨by omega,by omega⟩) (by (try simp only[List.length_append]);omega)).mono ?_;rintro e w3 ⟨rfl,d,a⟩;have H:=G.drew.step d a (by decide) U;have T:w3.cell? (O bi 1)=some (qS ah X.heap.length ch):=H.c 1))
  replace G:=H;clear H N T d a;have c1:w3.cell? (O bi 1)=some (qS ah X.heap.length ch):=G.c 1;obtain⟨L2,k⟩:∃L2,L2=L++DH Gk X.cz++CQ X.heap.length:=⟨_,rfl⟩;rw[← k] at G HE;have a7:L2.length<=l.length+500000:=by rw[k];simp only[List.length_append];omega
  clear k l3 HT a5 f;go_wp2_with (fail)
  go_loopg [42] X.heap.length (λg i wr=>∃j:Nat,j+g=X.heap.length/\i=J j/\WsB w bt bi #[qS ad X.cz.length cap,qS ah X.heap.length ch,J X.ez] 26 (L2++DH GH (X.heap.take j)) wr)
  case atStart=>exact⟨0,by omega,rfl,by simpa [DH] using G⟩
  case round=>
   clear G c1;obtain⟨j,C,rfl,G⟩:=hrel;by_cases hj2:j<X.heap.length
   ·have a0:(j:Int)<(X.heap.length:Int):=by omega
    have a1:(0:Int)<=(j:Int):=by omega
    obtain⟨y,Q⟩:∃y,X.heap[j]?=some y:=⟨_,List.getElem?_eq_getElem hj2⟩;obtain⟨b,o,rfl,m,v0,kv,v4,Z⟩:=q j y Q;simp only[Nat.add_zero] at v0;have kc:=λ(o:Nat)=>G.K.bel.cell (p:=(O b o)) m;replace v0:=(kc _).trans v0;replace v4:=(kc _).trans v4;clear kc;have HY:=hid (PS (enc:=GH) Q);have Y:=a3.out y (List.mem_of_getElem? Q);have a2:=a4 j;obtain⟨ak,ck,rfl⟩:=Z.get;have M:WsB w bt bi _ 26 _ (wr.alloc (qC #[J y.cls,qS ak y.slots.length ck] 84)):=G.step (G.S.later (Bg _ _)) (WrK.of_below (Nat.le_of_lt G.S.lt) (Bg _ _)) (by decide) U;have V:=Z.keep BZ M.K.keeps λ_ h=>h;clear Q Z;go_wp2_with (go_at_call 161;refine (xvv y _ M.S V Y (by simp only[List.length_append];omega)).mono ?_;rintro e w6 ⟨rfl,d,a⟩;refine Hid.out ?_);refine Lib.hid ?_;have W:=M.step d a (by decide) U;rw[List.append_assoc,← HY.out] at W;clear M G d a v0 v4 V;go_wp2;go_roundg (gk-1)
    case measure=>omega
    case rel=>exact⟨j+1,by omega,by go_num,W⟩
   obtain rfl:j=X.heap.length:=by omega
   rw[NS] at G;go_wp2;refine bodyPost_end (v:=.tuple #[]) (by simp[results,Tryz.results116,go_sem]) rfl ⟨rfl,by rw[HE.out];exact G.S,G.K⟩
theorem xxK {w:qW}{B B':Nat}{v:Value}{n:Nat}{xs:List Value}(h:w.ownsRow B 5 1 v n xs)(b:B'<=B):w.ownsRow B' 5 1 v n xs:=⟨h.1,h.2.imp id λ⟨g,cap,cur,e,a,r⟩=>⟨g,cap,cur,e,by omega,r⟩⟩
def TextAt (w0 w:qW)(v:Value)(l:List UInt8):Prop:=∃ad cap,v=qS ad l.length cap/\w.ownsRow w0.heap.size 5 1 (qS ad l.length cap) l.length (Lib.byteCells l)
theorem xwv {P:Nat->Prop}(X:QW)(cv hv:Value)(w:qW)(C:BK P w cv X.cz)(B:BP P w hv X.heap)(z:BM X=0)(y:Lib.TabIs Tryz.prog w "internal/strconv.uint64pow10" .u64 Lib.pow10Tab) :
  Calls Tryz.prog 89 #[WV cv hv X.ez] w λe w'=>∃v,e=.returned v/\TextAt w w' v (Ef X)/\qY w w':=by
 have s:=C.lt Bw λ_ _=>ltC;have o:=B.lt BB λ_ _=>ltO;have q:=xup z;have r:=xuD z;obtain⟨ad,cap,rfl⟩:=s.get;obtain⟨ah,ch,rfl⟩:=o.get;have t:=Bg w (qA ad cap ah ch X);have j:=BG w (qA ad cap ah ch X) (qC #[qN] 194);have i:=Below.heap_alloc (w.alloc (qA ad cap ah ch X)) (qC #[qN] 194) w.heap.size (by simp);rw[heap_alloc_new] at i;have k:=BH (w.alloc (qA ad cap ah ch X)) (qC #[qN] 194);rw[show (w.alloc (qA ad cap ah ch X)).heap.size=w.heap.size+1 by simp] at k;have p:Tab (w.heap.size) w:=Lib.tabBelow_of_tabIs y;go_enter Tryz.func89,Tryz.ntmps89;go_upto_region 2 with (fail);have c0:=hid i;have u:WrS (w.heap.size+1) [] ((w.alloc (qA ad cap ah ch X)).alloc (qC #[qN] 194)):=⟨⟨none,0,k,World.ownsRow_nil _ _ _ _⟩,Tab.mono (Lib.TabBelow.on p j) (by omega)⟩
 have l:BK (λb=>b<w.heap.size+1) _ _ _:=s.keep Bw (.of_below j) (λb h=>by omega);have m:BP (λb=>b<w.heap.size+1) _ _ _:=o.keep BB (.of_below j) (λb h=>by omega);have d0:=cell_of_row _ _ 0 _ _ _ i;have d1:=cell_of_row _ _ 1 _ _ _ i;have d2:=cell_of_row _ _ 2 _ _ _ i;clear i k t s o C B y c0;generalize ((w.alloc (qA ad cap ah ch X)).alloc (qC #[qN] 194))=W2 at *;go_wp2_with (go_at_call 116;refine (xvQ X _ _ u l m q r (by simp)).mono ?_;rintro e w3 ⟨rfl,a,d⟩;refine Hid.out ?_);refine Lib.hid ?_;rw[List.nil_append] at a;obtain⟨a3,c,g,f⟩:=a.ex;have e0:w3.cell? (O (w.heap.size+1) 0)=some (qS a3 (Ef X).length c):=by rw[Bn g];rfl
 have n:qY w w3:=j.trans (d.bel.mono (by omega));clear d0 d1 d2 u l m d;go_wp2;go_ret;exact⟨_,rfl,⟨a3,c,rfl,xxK f (by omega)⟩,n⟩
theorem Nh (n b a:Int)(w:qW):Calls Tryz.prog 214 #[J n,J b,J a] w λe w'=>e=.returned (.bool (Cj n b a))/\w'=w:=by
 go_enter Tryz.func214,Tryz.ntmps214;by_cases h1:b<=n
 ·by_cases h2:n<=a
  ·go_wp2;go_ret;exact⟨Cq (by simp[Cj,h1,h2]),rfl⟩
  have c:decide (n<=a)=false:=by simpa using h2
  go_wp2;go_ret;exact⟨Cq (by simp[Cj];omega),rfl⟩
 have d:decide (b<=n)=false:=by simpa using h1
 go_wp2;go_ret;exact⟨Cq (by simp[Cj];omega),rfl⟩
theorem xui (n c:Int)(w:qW)(f:0<=n/\n<=1000):Calls Tryz.prog 215 #[J n,J c] w λe w'=>e=.returned (.bool (Dj n c))/\w'=w:=by
 have a:IntKind.i64.wrap (n-1)=n-1:=CM (by omega) (by omega);go_enter Tryz.func215,Tryz.ntmps215;by_cases h1:c=0
 ·subst h1;go_wp2;go_ret;exact⟨Cq (by simp[Dj]),rfl⟩
 have b:(c == 0)=false:=beq_eq_false_iff_ne.2 h1;go_wp2_with fail;refine (Nh c 4 (n-1) _).mono ?_;rintro e w1 ⟨rfl,d⟩;subst d;go_wp2;go_ret
 exact⟨Cq (by
  unfold Cj Dj;rw[Bool.eq_iff_iff];simp only[decide_eq_true_eq];omega),rfl⟩
def Ll (X:QW):Int:=if X.cz.length<4\/12<X.cz.length\/60<X.heap.length then 5 else if X.ez<0\/1073741824<X.ez then 3 else 0
theorem xu4 {P:Nat->Prop}(X:QW)(cv hv:Value)(w:qW)(r:BK P w cv X.cz)(q:BP P w hv X.heap):Calls Tryz.prog 167 #[WV cv hv X.ez] w λe w'=>e=.returned (J (Ll X))/\qY w w':=by
 obtain⟨ad,cap,rfl,s,b,f,-⟩:=id r;obtain⟨ah,ch,rfl,d,a,c,-⟩:=id q;have h:Hid (Ll X=if X.cz.length<4\/12<X.cz.length\/60<X.heap.length then 5 else if X.ez<0\/1073741824<X.ez then 3 else 0):=rfl;generalize Ll X=R at *;go_enter Tryz.func167,Tryz.ntmps167;go_wp2_with fail;refine (Nh _ 4 12 _).mono ?_;rintro e w1 ⟨rfl,k⟩;subst k;have i:=Bg w (qA ad cap ah ch X)
 cases l:Cj (X.cz.length:Int) 4 12
 ·have g:¬ (4<=(X.cz.length:Int)/\(X.cz.length:Int)<=12):=by simpa [Cj] using l
  go_wp2;go_ret;exact⟨BT (by rw[h.out,if_pos Zo]),i⟩
 have g:4<=(X.cz.length:Int)/\(X.cz.length:Int)<=12:=by simpa [Cj] using l
 have p:Hid (¬ (X.cz.length<4\/12<X.cz.length)):=by show ¬ _;omega
 clear g;by_cases h2:(60:Int)<(X.heap.length:Int)
 ·go_wp2;go_ret;exact⟨BT (by rw[h.out,if_pos Zo]),i⟩
 have o:decide ((60:Int)<(X.heap.length:Int))=false:=by simpa using h2
 have m:Hid (¬ (X.cz.length<4\/12<X.cz.length\/60<X.heap.length)):=by
  have:=p.out;show ¬ _;omega
 go_wp2_with fail;refine (Nh _ 0 1073741824 _).mono ?_;rintro e w2 ⟨rfl,k⟩;subst k
 cases n:Cj X.ez 0 1073741824
 ·have j:¬ (0<=X.ez/\X.ez<=1073741824):=by simpa [Cj] using n
  go_wp2;go_ret;exact⟨BT (by rw[h.out,if_neg (by have:=m.out;omega),if_pos Zo]),i⟩
 have j:0<=X.ez/\X.ez<=1073741824:=by simpa [Cj] using n
 go_wp2;go_ret;exact⟨BT (by rw[h.out,if_neg (by have:=m.out;omega),if_neg Zo]),i⟩
theorem xu7 (c:UInt8):∀l:List UInt8,Lib.indexByte l c=match l.idxOf? c with | none=>-1 | some i=>(i:Int)
 | []=>rfl
 | a :: l=>by
  rw[Lib.indexByte,List.idxOf?_cons,xu7 c l];by_cases h:(a == c)=true
  ·simp[h]
  simp only[h,if_false]
  cases b:l.idxOf? c with
  | none=>simp
  | some i=>simp
theorem xwn {l:List UInt8}(h:GF l=none):Lib.indexByte l 32<1:=by
 rw[xu7];unfold GF at h;split at h
 ·rename_i e;rw[e];simp
 ·rename_i e;rw[e];simp
 cases h
theorem xwu {l w r:List UInt8}(h:GF l=some (w,r)):∃k:Nat,Lib.indexByte l 32=(k:Int)/\w=l.take k/\r=l.drop (k+1)/\k+1<=l.length/\1<=k:=by
 have a:=h;unfold GF at h;split at h
 ·cases h
 ·cases h
 rename_i i e
 cases h;refine⟨i+1,by rw[xu7,e],rfl,rfl,?_,by omega⟩;rw[List.idxOf?,List.findIdx?_eq_some_iff_getElem] at e;obtain⟨b,-⟩:=e;omega
structure Vars (w:qW):Prop where
 syn:∃tp p,w.var? Tryz.prog "strconv.ErrSyntax" = some #[.iface tp p]
 rng:∃tp p,w.var? Tryz.prog "strconv.ErrRange" = some #[.iface tp p]
 tab:Lib.TabIs Tryz.prog w "internal/strconv.uint64pow10" .u64 Lib.pow10Tab
theorem xuC {w w':qW}{name:String}{cs:Array Value}(h:w.var? Tryz.prog name=some cs)(c:qY w w'):w'.var? Tryz.prog name=some cs:=by
 unfold World.var? at *
 cases b:Tryz.prog.globalNamed name with
 | none=>simp[b] at h
 | some g=>
  simp only[b,Option.bind_some] at h ⊢
  have a:g<w.heap.size:=by
   rcases Nat.lt_or_ge g w.heap.size with h' | h'
   ·exact h'
   rw[Array.getElem?_eq_none h'] at h;simp at h
  rw[c.block g a];exact h
theorem Vars.later {w w':qW}(h:Vars w)(e:qY w w'):Vars w':=by
 obtain⟨⟨a,b,f⟩,⟨c,d,g⟩,i⟩:=h;exact⟨⟨a,b,xuC f e⟩,⟨c,d,xuC g e⟩,xuC i e⟩
def VarsB (B:Nat)(w:qW):Prop:=∀w',Below B w w'->Vars w'
theorem VarsB.on {B:Nat}{w w':qW}(h:VarsB B w)(b:Below B w w'):VarsB B w':=λw2 a=>h w2 (b.trans a)
theorem VarsB.here {B:Nat}{w:qW}(h:VarsB B w):Vars w:=h w (.refl _ _)
theorem Vars.from {w:qW}(h:Vars w):VarsB w.heap.size w:=λw' a=>h.later a
theorem VarsB.mono {B B':Nat}{w:qW}(h:VarsB B w)(a:B<=B'):VarsB B' w:=λw' b=>h w' (b.mono a)
def xxQ (br:Nat)(w:qW)(ad:Option Addr)(l:List UInt8):Prop:=∀i x,l[i]?=some x->∃b o,ad=some (O b o)/\b<br/\w.cell? (O b (o+i))=some (.int .u8 (x.toNat:Int))
def RdAt (br:Nat)(w:qW):Option (List UInt8)->Prop
 | none=>w.heap[br]?=some (qC #[qN,.bool true] 197 (0,0))
 | some l=>∃ad cap,w.heap[br]?=some (qC #[qS ad l.length cap,.bool false] 197 (0,0))/\l.length<=cap/\cap<=maxLen/\(ad=none->cap=0)/\l.length<=140737488351232/\xxQ br w ad l
structure RdK (br:Nat)(w w':qW):Prop where
 bel:Below br w w'
 oth:∀b,b<w.heap.size->b≠br->w'.heap[b]?=w.heap[b]?
theorem RdK.refl (br:Nat)(w:qW):RdK br w w:=⟨.refl _ _,λ_ _ _=>rfl⟩
theorem RdK.trans {br:Nat}{a b c:qW}(h:RdK br a b)(k:RdK br b c):RdK br a c:=⟨h.bel.trans k.bel,λx d e=>(k.oth x (Cd d h.bel.size) e).trans (h.oth x d e)⟩
theorem RdK.of_below {br:Nat}{w w':qW}(a:br<=w.heap.size)(h:qY w w'):RdK br w w':=⟨h.mono a,λb c _=>h.block b c⟩
theorem RdK.set {br:Nat}{w w':qW}(h:RdK br w w')(o:Nat)(v:Value):RdK br w (w'.setCell (O br o) v):=⟨h.bel.setCell (Bq _) _,λb c a=>(BS a v).trans (h.oth b c a)⟩
theorem RdAt.keep {br:Nat}{w w':qW}{st:Option (List UInt8)}(h:RdAt br w st)(c:qY w w'):RdAt br w' st:=by
 cases st with
 | none=>exact (c.block _ (By h)).trans h
 | some l=>
  obtain⟨ad,cap,d,k,p,f,g,j⟩:=h;refine⟨ad,cap,(c.block _ (By d)).trans d,k,p,f,g,λi x n=>?_⟩;obtain⟨b,o,e,a,m⟩:=j i x n;exact⟨b,o,e,a,Bf c m⟩
theorem RdAt.lt {br:Nat}{w:qW}{st:Option (List UInt8)}(h:RdAt br w st):br<w.heap.size:=by
 cases st with
 | none=>exact By h
 | some l=>obtain⟨_,_,a,-⟩:=h;exact By a
structure RdS (br:Nat)(w:qW)(st:Option (List UInt8)):Prop where
 at_:RdAt br w st
 vars:VarsB br w
theorem RdS.later {br:Nat}{w w':qW}{st:Option (List UInt8)}(h:RdS br w st)(a:qY w w'):RdS br w' st:=⟨h.at_.keep a,h.vars.on (a.mono (Nat.le_of_lt h.at_.lt))⟩
theorem RdS.lt {br:Nat}{w:qW}{st:Option (List UInt8)}(h:RdS br w st):br<w.heap.size:=h.at_.lt
theorem RdS.setHi {br:Nat}{w:qW}{st:Option (List UInt8)}(h:RdS br w st){d:Nat}(r:br<d)(o:Nat)(v:Value):RdS br (w.setCell (O d o) v) st:=by
 refine⟨?_,h.vars.on ((Br _ _).setCell (by simp;omega) _)⟩;have c:=h.at_
 cases st with
 | none=>exact (BS (by omega) v).trans c
 | some l=>
  obtain⟨ad,cap,f,m,q,g,j,k⟩:=c;refine⟨ad,cap,(BS (by omega) v).trans f,m,q,g,j,λi x p=>?_⟩;obtain⟨b,o',e,a,n⟩:=k i x p;exact⟨b,o',e,a,(BV _ _ _ _ (by simp;omega)).trans n⟩
theorem RdK.setHi {br:Nat}{w w':qW}(h:RdK br w w'){d:Nat}(f:w.heap.size<=d)(e:br<=d)(o:Nat)(v:Value):RdK br w (w'.setCell (O d o) v):=⟨h.bel.setCell e _,λb a c=>(BS (by omega) v).trans (h.oth b a c)⟩
def RdR {α:Type}(f:List UInt8->Option (α × List UInt8))(st:Option (List UInt8))(x:α)(st':Option (List UInt8)):Prop:=match st.bind f with
 | some (y,r)=>x=y/\st'=some r
 | none=>st'=none
theorem xuF:∀l:List UInt8,Lib.bytesOf (l.map λx=>(x.toNat:Int))=l
 | []=>rfl
 | x :: l=>by
  have:=xuF l;unfold Lib.bytesOf at *;rw[List.map_cons,List.map_cons,this];simp
theorem xwe {br:Nat}{w:qW}{l:List UInt8}{k b o cap':Nat}{a:Option Addr}{u:Value}(p:w.heap[br]?=some (qC #[u,.bool false] 197 (0,0)))(q:l.length<=140737488351232)(g:xxQ br w (some (O b o)) l)
  (n:l.length-(k+1)<=cap') (h:cap'<=2 ^ 63-1) (j:a≠none) (m:k+1<l.length->a=some (O b (o+(k+1)))):RdAt br (w.setCell (O br 0) (qS a (l.length-(k+1)) cap')) (some (l.drop (k+1))):=by
 refine⟨a,cap',by rw[BW p,List.length_drop];rfl,by rw[List.length_drop];exact n,by unfold maxLen;exact h,λe=>absurd e j,by rw[List.length_drop];omega,λi x f=>?_⟩;rw[List.getElem?_drop] at f;obtain⟨b',o',e,d,c⟩:=g _ x f
 cases e;have:=Bz f;refine⟨b,o+(k+1),m (by omega),d,?_⟩;rw[BV _ _ _ _ (by simp;omega),Nat.add_assoc];exact c
theorem below_grow (B:Nat)(w:qW)(a:B<=w.heap.size)(k:Nat)(os:Array Obj):Below B w (Sort.grow (w.drewN k) os):=Lib.below_grow B w a k os
theorem Qy {br:Nat}{w:qW}{v u:Value}(b:w.heap[br]?=some (qC #[v,u] 197 (0,0)))(hv:VarsB br w):Calls Tryz.prog 208 #[qP br] w λe w'=>e=.returned (.tuple #[])/\RdS br w' none/\RdK br w w':=by
 have c0:w.cell? (O br 0)=some v:=by rw[Bn b];rfl
 have c1:w.cell? (O br 1)=some u:=by rw[Bn b];rfl
 have cf:=BN b;have K:RdK br w ((w.setCell (O br 0) (qN)).setCell (O br 1) (.bool true)):=((RdK.refl _ _).set _ _).set _ _;have a:((w.setCell (O br 0) (qN)).setCell (O br 1) (.bool true)).heap[br]?=some (qC #[qN,.bool true] 197 (0,0)):=by rw[BW (BW b _)];rfl
 have d:=hid a;have c:=hid K;clear a K;go_enter Tryz.func208,Tryz.ntmps208;go_wp2;refine bodyPost_end (v:=.tuple #[]) (by simp[results,Tryz.results208,go_sem]) rfl ⟨rfl,⟨d.out,hv.on c.out.bel⟩,c.out⟩
theorem xum {br:Nat}{w:qW}{st:Option (List UInt8)}(h:RdS br w st):Calls Tryz.prog 207 #[qP br] w λe w'=>∃s st',e=.returned (qZ s)/\RdR Fp st s st'/\(st'=none->s=⟨#[]⟩)/\s.size<=140737488351232/\RdS br w' st'/\RdK br w w':=by
 obtain⟨c,hv⟩:=h
 cases st with
 | none=>
  have f:w.heap[br]?=some (qC #[qN,.bool true] 197 (0,0)):=c;have c0:w.cell? (O br 0)=some (qN):=by rw[Bn f];rfl
  go_enter Tryz.func207,Tryz.ntmps207;go_wp2_with (first | (go_at_call 245;refine (bytes_IndexByte_nil _ _).mono ?_;rintro e w1 ⟨rfl,rfl⟩) | (go_at_call 208;refine (Qy f hv).mono ?_;rintro e w2 ⟨rfl,t,n⟩));go_ret;exact⟨_,none,rfl,rfl,λ_=>rfl,by decide,t,n⟩
 | some l=>
  obtain⟨ad,cap,f,G,D,B,y,g⟩:=c;unfold maxLen at D;have c0:w.cell? (O br 0)=some (qS ad l.length cap):=by rw[Bn f];rfl
  have u:Calls Tryz.prog 245 #[qS ad l.length cap,.int .u8 32] w λe w'=>e=.returned (J (Lib.indexByte l 32))/\w'=w:=by
   cases ad with
   | none=>
    have:=B rfl;subst this;have:l=[]:=List.eq_nil_of_length_eq_zero Zo;subst this;exact bytes_IndexByte_nil 32 w
   | some a=>
    have:=bytes_IndexByte_at a l.length cap (l.map λx=>(x.toNat:Int)) 32 w (by simp) (λi z=>by
     obtain⟨b,o,e,-,v⟩:=g i _ (List.getElem?_eq_getElem z)
     cases e;rw[Addr.add_lit,v];simp[z])
    rw[xuF] at this;exact this
  cases m:GF l with
  | none=>
   have F:=xwn m;have p:Hid (RdR Fp (some l) ⟨#[]⟩ none):=by show RdR _ _ _ _;unfold RdR Fp;simp[m]
   generalize Lib.indexByte l 32=k at *;clear g m;go_enter Tryz.func207,Tryz.ntmps207;go_wp2_with (first | (go_at_call 245;refine u.mono ?_;rintro e w1 ⟨rfl,rfl⟩) | (go_at_call 208;refine (Qy f hv).mono ?_;rintro e w2 ⟨rfl,t,n⟩));go_ret;exact⟨_,none,rfl,p.out,λ_=>rfl,by decide,t,n⟩
  | some q=>
   obtain⟨ww,r⟩:=q;obtain⟨k,e1,rfl,rfl,e2,e3⟩:=xwu m;rw[e1] at u;have p:Hid (RdR Fp (some l) ⟨(l.take k).toArray⟩ (some (l.drop (k+1)))):=by show RdR _ _ _ _;unfold RdR Fp;simp[m]
   obtain⟨b,o,rfl,d,-⟩:=g 0 _ (List.getElem?_eq_getElem (show 0<l.length by omega))
   have C:(convert 29 9 (qS (some (O b o)) k cap)).run Tryz.prog w=.ok (qZ ⟨(l.take k).toArray⟩) w:=by
    have n:(l.take k).length=k:=by rw[List.length_take];omega
    have:=run_convert_bytes_back (P:=Tryz.prog) w 29 9 5 (O b o) cap (l.take k) Tryz.underlying29 Tryz.underlying5 Tryz.underlying9 (λj H=>by
     obtain⟨b',o',e,-,v⟩:=g j _ (List.getElem?_eq_getElem (show j<l.length by omega))
     cases e;rw[Addr.add_lit,v,List.getElem_take])
    rwa [n] at this
   have k0:(0:Int)<=(k:Int):=by omega
   have k1:(k:Int)<=(cap:Int):=by omega
   have k2:(k:Int)+1<=(l.length:Int):=by omega
   have k3:decide ((k:Int)<1)=false:=by simp;omega
   have cf:=BN f;clear m e1;go_enter Tryz.func207,Tryz.ntmps207;go_wp2_with (first | (go_at_call 245;refine u.mono ?_;rintro e w1 ⟨rfl,rfl⟩))
   ·go_ret;exact⟨_,rfl,some (l.drop (k+1)),p.out,(λe=>by cases e),by simp[ByteArray.size];omega,⟨xwe f y g Zo Zo (by simp) (λh=>by omega),hv.on ((RdK.refl br _).set _ _).bel⟩,(RdK.refl _ _).set _ _⟩
   go_ret;exact⟨_,rfl,some (l.drop (k+1)),p.out,(λe=>by cases e),by simp[ByteArray.size];omega,⟨xwe f y g Zo Zo (by simp) (λh=>rfl),hv.on ((RdK.refl br _).set _ _).bel⟩,(RdK.refl _ _).set _ _⟩
theorem RdR.none {α:Type}{f:List UInt8->Option (α × List UInt8)}(x:α):RdR f none x none:=rfl
theorem RdR.some {α:Type}{f:List UInt8->Option (α × List UInt8)}{l r:List UInt8}{x:α}(h:f l=.some (x,r)):RdR f (.some l) x (.some r):=by unfold RdR;simp[h]
theorem RdR.bad {α:Type}{f:List UInt8->Option (α × List UInt8)}{l:List UInt8}(x:α)(h:f l=.none):RdR f (.some l) x .none:=by unfold RdR;simp[h]
theorem RdR.cases {α:Type}{f:List UInt8->Option (α × List UInt8)}{st a:Option (List UInt8)}{x:α}(h:RdR f st x a):(∃l r,st=.some l/\f l=.some (x,r)/\a=.some r)\/(a=.none/\∀l,st=.some l->f l=.none):=by
 cases st with
 | none=>exact .inr ⟨h,λl c=>by cases c⟩
 | some l=>
  unfold RdR at h;simp only[Option.bind_some] at h
  cases b:f l with
  | none=>rw[b] at h;exact .inr ⟨h,λl' e=>by cases e;exact b⟩
  | some q=>
   obtain⟨y,r⟩:=q;rw[b] at h;obtain⟨rfl,rfl⟩:=h;exact .inl ⟨l,r,rfl,b,rfl⟩
theorem RdS.box {br:Nat}{w:qW}{st:Option (List UInt8)}(h:RdS br w st):∃v u,w.heap[br]?=.some (qC #[v,u] 197 (0,0)):=by
 cases st with
 | none=>exact⟨_,_,h.at_⟩
 | some l=>obtain⟨_,_,a,-⟩:=h.at_;exact⟨_,_,a⟩
theorem Kg {br:Nat}{w:qW}{st:Option (List UInt8)}(h:RdS br w st):Calls Tryz.prog 162 #[.pointer (.some ⟨br,0,.none⟩)] w λe w'=>∃n st',e=.returned (J n)/\RdR Dd st n st'/\Fd n/\RdS br w' st'/\RdK br w w':=by
 go_enter Tryz.func162,Tryz.ntmps162;go_wp2_with (go_at_call 207;refine (xum h).mono ?_;rintro e w1 ⟨s,b,rfl,g,d,B,a,o⟩;refine Hid.out ?_);refine Lib.hid ?_;have X:=a.vars.here;obtain⟨⟨tp,p,z⟩,⟨tr,r,j⟩,-⟩:=X;go_wp2_with (go_at_call 97;refine (xuy s (by omega) tp tr p r w1 z j).mono ?_;rintro e w2 ⟨f,v,ev,rfl,i⟩;refine Hid.out ?_);refine Lib.hid ?_;have F:=a.later f;have M:RdK br w w2:=o.trans (.of_below (Nat.le_of_lt a.lt) f);obtain⟨bv,bu,t⟩:=F.box;rcases i with ⟨rfl,H⟩ | ⟨⟨q,rfl⟩,T⟩
 ·obtain⟨v0,v1⟩:=Lib.atoiAll_bounds H;have S:=F.vars.here.tab;have R:=strconv_Itoa v v0 v1 w2 S
  have V:Hid (∃l r,st=.some l/\GF l=.some (s.toList,r)/\b=.some r):=by
   show ∃l r,_;rcases g.cases with ⟨l,r,rfl,G,rfl⟩ | ⟨rfl,G⟩
   ·refine⟨l,r,rfl,?_,rfl⟩;unfold Fp at G
    cases K:GF l with
    | none=>simp[K] at G
    | some q=>
     rw[K] at G;simp only[Option.bind_some,Option.some.injEq,Prod.mk.injEq] at G;obtain⟨rfl,rfl⟩:=G;rw[ByteArray.toList_eq]
   rw[d rfl] at H
   cases H
  rw[← ByteArray.toList_eq] at H;clear d
  cases W:(Lib.itoa v == s.toList)
  ·have Q:Hid (RdR Dd st 0 .none):=by
    obtain⟨l,r,rfl,K,rfl⟩:=V.out;show RdR _ _ _ _;refine RdR.bad _ ?_;unfold Dd;rw[K];simp only;rw[H];simp only;rw[if_neg (by simpa using W)]
   go_wp2_with (first
    | (go_at_call 71;refine R.mono ?_;rintro e w3 ⟨rfl,kk,os,rfl⟩;have L:=below_grow w2.heap.size w2 (Bq _) kk os;have N:=F.later L;obtain⟨D,C,c⟩:=N.box)
    | (go_at_call 208;refine (Qy c N.vars).mono ?_;rintro e w4 ⟨rfl,m,u⟩))
   go_ret;exact⟨0,.none,rfl,Q.out,⟨by decide,by decide⟩,m,(M.trans (.of_below (Nat.le_of_lt F.lt) L)).trans u⟩
  have Q:Hid (RdR Dd st v b):=by
   obtain⟨l,r,rfl,K,rfl⟩:=V.out;show RdR _ _ _ _;refine RdR.some ?_;unfold Dd;rw[K];simp only;rw[H];simp only;rw[if_pos (by simpa using W)]
  go_wp2_with (go_at_call 71;refine R.mono ?_;rintro e w3 ⟨rfl,kk,os,rfl⟩;have L:=below_grow w2.heap.size w2 (Bq _) kk os);go_ret;exact⟨v,b,rfl,Q.out,⟨v0,v1⟩,F.later L,M.trans (.of_below (Nat.le_of_lt F.lt) L)⟩
 have Q:Hid (RdR Dd st 0 .none):=by
  show RdR _ _ _ _;rcases g.cases with ⟨l,r,rfl,G,rfl⟩ | ⟨rfl,G⟩
  ·refine RdR.bad _ ?_;unfold Fp at G
   cases K:GF l with
   | none=>simp[K] at G
   | some q=>
    rw[K] at G;simp only[Option.bind_some,Option.some.injEq,Prod.mk.injEq] at G;obtain⟨rfl,rfl⟩:=G;unfold Dd;rw[K]
    cases U:Lib.atoiAll q.1
    ·exact absurd (by simpa using U) (T _)
    ·simp[U]
    simp[U]
  cases st with
  | none=>exact RdR.none _
  | some l=>
   refine RdR.bad _ ?_;have:=G l rfl;unfold Fp at this
   cases K:GF l with
   | none=>unfold Dd;rw[K]
   | some q=>simp[K] at this
 go_wp2_with (go_at_call 208;refine (Qy t F.vars).mono ?_;rintro e w3 ⟨rfl,k,y⟩);go_ret;exact⟨0,.none,rfl,Q.out,⟨by decide,by decide⟩,k,M.trans y⟩
theorem Pm {br:Nat}{w:qW}{st:Option (List UInt8)}(a:Nat)(v:a<=1000)(h:RdS br w st):Calls Tryz.prog 209 #[.pointer (.some ⟨br,0,.none⟩),J (a:Int)] w λe w'=>∃(n:Nat) (c:Option (List UInt8)),e=.returned (J (n:Int))/\RdR (Hr a) st n c/\n<=a/\RdS br w' c/\RdK br w w':=by
 go_enter Tryz.func209,Tryz.ntmps209;go_wp2_with (go_at_call 162;refine (Kg h).mono ?_;rintro e w1 ⟨n,d,rfl,g,y,b,f⟩;refine Hid.out ?_);refine Lib.hid ?_;obtain⟨bv,bu,j⟩:=b.box
 cases o:Cj n 0 a
 ·have s:Hid (RdR (Hr a) st 0 .none):=by
   show RdR _ _ _ _;have m:¬ (0<=n/\n<=(a:Int)):=by simpa [Cj] using o
   rcases g.cases with ⟨l,r,rfl,p,rfl⟩ | ⟨rfl,p⟩
   ·refine RdR.bad _ ?_;unfold Hr;rw[p];simp only[Option.bind_some];rw[if_neg m]
   cases st with
   | none=>exact RdR.none _
   | some l=>refine RdR.bad _ ?_;unfold Hr;rw[p l rfl];rfl
  go_wp2_with (first
   | (go_at_call 214;refine (Nh _ 0 _ _).mono ?_;rw[o];rintro e w6 ⟨rfl,t⟩;subst t)
   | (go_at_call 208;refine (Qy j b.vars).mono ?_;rintro e w4 ⟨rfl,i,k⟩))
  go_ret;exact⟨0,.none,rfl,s.out,by omega,i,f.trans k⟩
 have m:0<=n/\n<=(a:Int):=by simpa [Cj] using o
 have s:Hid (RdR (Hr a) st n.toNat d):=by
  show RdR _ _ _ _;rcases g.cases with ⟨l,r,rfl,p,rfl⟩ | ⟨rfl,p⟩
  ·refine RdR.some ?_;unfold Hr;rw[p];simp only[Option.bind_some];rw[if_pos m]
  cases st with
  | none=>exact RdR.none _
  | some l=>refine RdR.bad _ ?_;unfold Hr;rw[p l rfl];rfl
 have q:((n.toNat:Nat):Int)=n:=by omega
 have u:=hid q;clear q
 go_wp2_with (first
  | (go_at_call 214;refine (Nh _ 0 _ _).mono ?_;rw[o];rintro e w6 ⟨rfl,t⟩;subst t))
 go_ret;exact⟨n.toNat,d,by rw[u.out];rfl,s.out,by omega,b,f⟩
end Go.Proofs.YtbafokihegegiaaGreatDoor
