/- A part. -/
import Derived.Test.YtbafokihegegiaaGreatDoorU6
namespace Go.Proofs.YtbafokihegegiaaGreatDoor
open Go.ChangeShapes Go.WideShapes Go.ChangeAt Go.RowKit
set_option linter.unusedSimpArgs false
set_option linter.unusedVariables false
set_option maxHeartbeats 8000000
set_option maxRecDepth 8000
section
variable {σ:Type}
variable {p:Mp σ} {L:(Nat->Nat)->World->σ->Nat->Prop} {LF QF:Nat} {lc qc:Array Value} {T T':Nat->Nat} {w w':World} {mb:Nat} {m m':Mc σ} {hv:Value} {g:Nat} {s:Nat->Nat} {K fb:Nat} {f:Fr} {cv av tv sv kv:Value}
structure FnR (p:Mp σ)(L:(Nat->Nat)->World->σ->Nat->Prop)(d:Nat)(T:Nat->Nat)(w:qW)(mb K fb:Nat)(R:Mc σ × QV × Int)(gk:Nat)(T1:Nat->Nat)(m:Mc σ)(f:Fr)(wr:qW):Prop where
 ext:Ext T T1 w
 kp:Kp (CF K) T w wr
 mac:∃hv g s,MacAt p T1 wr mb m (20-(d:Int)) hv g s
 fr:∃cv av tv sv kv,FrAt T1 K wr fb f cv av tv sv kv
 lk:L T1 wr m.st (FM p.E m)
 min:MIn p.E m
 fo:FOk p.E.cz m.heap.length f
 gd:Mn f
 room:f.stack.length+Cz m f<=1000000
 mu:Cz m f<=gk
 val:CX (BL p.E d) p.E d gk m f=R
 r0:wr.cell? (O w.heap.size 0)=some (J 0)
 r1:wr.cell? (O w.heap.size 1)=some (J 0)
 rf:∀o,wr.frozen? (O w.heap.size o)=false
 r4:T1 w.heap.size=4
 sz:w.heap.size<wr.heap.size
theorem Mw {S:Nat->Prop}{b o:Nat}(k:Kp S T w w')(c:b<w.heap.size)(a:¬ S (T b))(h:w.frozen? (O b o)=false):w'.frozen? (O b o)=false:=by
 unfold World.frozen? at h ⊢;simp only at h ⊢;rw[k.blk b c a];exact h
theorem FnR.ended (a:Cx p L LF lc QF qc){d gk:Nat}{T1:Nat->Nat}{wr:qW}{R:Mc σ × QV × Int}(h:FnR p L d T w mb K fb R gk T1 m f wr)(u0 u1:Value):EnPost p L T w mb (20-(d:Int)) K (m,BC,9) (.returned (.tuple #[VV BC,J 9])) ((wr.setCell (O w.heap.size 0) u0).setCell (O w.heap.size 1) u1).drew:=by
 obtain⟨hv,g,s,b⟩:=h.mac;have k:Kp (λt=>t=4) T1 wr ((wr.setCell (O w.heap.size 0) u0).setCell (O w.heap.size 1) u1).drew:=(((Kp.refl (λt=>t=4) _ _).set (λ_=>h.r4) _ _).set (λ_=>h.r4) _ _).drew;refine⟨rfl,⟨T1,h.ext,⟨_,_,_,b.keep (.refl _ _) k (by omega) (by omega) (by omega)⟩,?_⟩,((h.kp.set (λh=>absurd h (Nat.lt_irrefl _)) _ _).set (λh=>absurd h (Nat.lt_irrefl _)) _ _).drew⟩;rw[if_neg (by simp)];exact a.mono (a.keep h.lk (.refl _ _) k (by omega) (by omega)) (Nat.zero_le _)
theorem xmM (hC:Cx p L LF lc QF qc){d:Nat}(hd:d<=20)(U:NM p L d)(h:MacAt p T w mb m (20-(d:Int)) hv g s)(hF:FrAt T K w fb f cv av tv sv kv)(hL:L T w m.st (FM p.E m))(hI:MIn p.E m)(M:FOk p.E.cz m.heap.length f)(D:Mn f)(B:f.stack.length+Cz m f<=1000000) :
  Calls Tryz.prog 232 #[qP mb,qP fb] w λe w'=>EnPost p L T w mb (20-(d:Int)) K (CX (BL p.E d) p.E d (Hn f) m f) e w':=by
 have hp:=hF.pos;have a8:=Bg w (qQ)
 have af:FnR p L d T w mb K fb (CX (BL p.E d) p.E d (Hn f) m f) (Hn f) (Dw T w 4) m f (w.alloc (qQ)):=
  ⟨EW T w 4,Kp.of_below a8,⟨_,_,_,(h.tagged0 4).later a8⟩,⟨_,_,_,_,_,(hF.tagged0 4).later a8⟩,hC.keep (hC.keep hL (EW T w 4) (Kp.refl (λ_=>False) _ _) id id) (.refl _ _) (Kp.of_below (S:=λ_=>False) a8) id id,hI,M,D,B,PT hI.tz.1,rfl,Bp _ _ _ _ rfl 0,Bp _ _ _ _ rfl 1,BN (BH w (qQ)),Gr (Bq _),by simp⟩
 clear h hF hL a8 M D B hI;generalize CX (BL p.E d) p.E d (Hn f) m f=R at *;generalize Hn f=G at *;go_enter Tryz.func232,Tryz.ntmps232;go_wp2
 go_loopg [] G (λgk wr=>∃T1 m f,FnR p L d T w mb K fb R gk T1 m f wr)
 case atStart=>exact⟨_,_,_,af⟩
 case round=>
  clear af;obtain⟨T1,m,f,hR⟩:=hrel;obtain⟨hv,g,s,hM⟩:=hR.mac;obtain⟨cv,av,tv,sv,kv,i⟩:=hR.fr;have ar:=hR.mu;by_cases a3:f.pc<0\/f.code.length<=f.pc.toNat
  ·have HV:Hid (R=(m,BC,9)):=by
    show _=_;rw[← hR.val]
    cases gk with
    | zero=>rfl
    | succ G'=>
     unfold CX;rcases a3 with hn | hn
     ·rw[if_pos hn]
     have:(if f.pc<0 then none else f.code[f.pc.toNat]?)=none:=by
      split
      ·rfl
      exact List.getElem?_eq_none hn
     rw[this]
   have a7:wr.cell? (O fb 12)=some (J f.pc):=by rw[Bn i.box];rfl
   have Z:wr.cell? (O fb 11)=some kv:=by rw[Bn i.box];rfl
   obtain⟨ac,cc,u,V,C,-,l⟩:=i.code;rw[u] at Z;have q0:=hR.r0;have q1:=hR.r1;have qf:=hR.rf;have X:=hid hR;have HM:=hid hM;clear hR hM i ar l u;by_cases hn:f.pc<0
   ·have az:decide (0<=f.pc)=false:=by simpa using hn
    have b2:¬ 0<=f.pc:=by omega
    clear a3 hn;go_wp2
    go_region
    go_wp2;rw[HV.out];refine Bt (v:=.tuple #[VV BC,J 9]) ?_ rfl (X.out.ended hC _ _);simp[results,Tryz.results232,go_sem,q0,q1]
   have az:decide (0<=f.pc)=true:=by simpa using hn
   have b2:0<=f.pc:=by omega
   have b5:¬ f.pc<(f.code.length:Int):=by omega
   have b8:decide (f.pc<(f.code.length:Int))=false:=by simpa using b5
   clear a3 hn;go_wp2
   go_region
   go_wp2;rw[HV.out];refine Bt (v:=.tuple #[VV BC,J 9]) ?_ rfl (X.out.ended hC _ _);simp[results,Tryz.results232,go_sem,q0,q1]
  obtain⟨k,n⟩:∃k:Nat,f.pc=(k:Int):=⟨f.pc.toNat,by omega⟩
  have ag:k<f.code.length:=by rw[n] at a3;simp at a3;omega
  obtain⟨x,y⟩:∃x,f.code[k]?=some x:=⟨_,List.getElem?_eq_getElem ag⟩;clear a3
  obtain⟨G',hG⟩:∃G',gk=G'+1:=⟨gk-1,by
   have:0<Cz m f:=by unfold Cz;rw[n];simp;omega
   omega⟩
  have HV:Hid (R=if x.op=17 then (m,f.top,0) else if (BD (BL p.E d) p.E d m { f with pc:=f.pc+1 } f.pc x).2.2≠0 then ((BD (BL p.E d) p.E d m { f with pc:=f.pc+1 } f.pc x).1,BC,(BD (BL p.E d) p.E d m { f with pc:=f.pc+1 } f.pc x).2.2) else CX (BL p.E d) p.E d G' (BD (BL p.E d) p.E d m { f with pc:=f.pc+1 } f.pc x).1 (BD (BL p.E d) p.E d m { f with pc:=f.pc+1 } f.pc x).2.1):=by
   show _=_;rw[← hR.val,hG]
   conv=>lhs;unfold CX
   rw[n,if_neg (by omega)];simp only[Int.toNat_natCast,y]
  have a7:wr.cell? (O fb 12)=some (J (k:Int)):=by rw[Bn i.box,← n];rfl
  have Z:wr.cell? (O fb 11)=some kv:=by rw[Bn i.box];rfl
  have am:=BN i.box;obtain⟨ac,cc,u,V,C,-,l⟩:=i.code;rw[u] at Z;unfold maxLen at C;obtain⟨bc,oc,H,-,i0,i1,i2,i3,i4,-⟩:=l k x y;rw[H] at Z;simp only[Nat.add_zero] at i0;have bf:(0:Int)<=(k:Int):=by omega
  have bb:(k:Int)<(f.code.length:Int):=by omega
  have be:IntKind.i64.wrap ((k:Int)+1)=(k:Int)+1:=CM (by omega) (by omega);have bg:fb<wr.heap.size:=By i.box;have bd:¬ fb=wr.heap.size:=by omega
  have b7:¬ wr.heap.size=fb:=by omega
  have HX:=hid y;have X:=hid hR;have HM:=hid hM;have HF:=hid i;have a1:=hid n;have au:=hid hG;clear y hR hM i n ar l u H hG;rw[a1.out] at HV;go_wp2
  go_region
  by_cases h17:x.op=17
  ·have ap:(x.op == 17)=true:=by simpa using h17
   rw[if_pos h17] at HV;clear h17;have Y:qY wr (wr.alloc (qE x)).drew:=(Bg _ _).drew;have a9:=HF.out.later Y;go_wp2_with fail;refine (Ng a9).mono ?_;rintro e w2 ⟨rfl,-,j⟩;have a4:=X.out.sz;have hz:w.heap.size<(wr.alloc (qE x)).drew.heap.size:=Cd a4 Y.size;have q0:=j.cell (Bf Y X.out.r0) (by rw[X.out.r4];omega);have q1:=j.cell (Bf Y X.out.r1) (by rw[X.out.r4];omega);have qf:∀o,w2.frozen? (O w.heap.size o)=false:=λo=>Mw j hz (by rw[X.out.r4];omega) ((Y.frozen (p:=(O w.heap.size o)) a4).trans (X.out.rf o));have b6:=hid ((HM.out.later Y).keep (.refl _ _) j (by omega) (by omega) (by omega));have b3:=hid (hC.keep (hC.keep X.out.lk (.refl _ _) (Kp.of_below (S:=λ_=>False) Y) id id) (.refl _ _) j (by omega) (by omega));have ay:=hid ((X.out.kp.on Y).trans X.out.ext (j.mono (S':=CF K) λt h=>by unfold CF;omega));clear a9 j Y a7 Z am i0 i1 i2 i3 i4;go_wp2;rw[HV.out];refine Bt (v:=.tuple #[VV f.top,J 0]) ?_ rfl ⟨rfl,⟨T1,X.out.ext,⟨_,_,_,b6.out.keep (.refl _ _) (((Kp.refl (λt=>t=4) _ _).set (λ_=>X.out.r4) _ _).set (λ_=>X.out.r4) _ _) (by omega) (by omega) (by omega)⟩,?_⟩,(ay.out.set (λh=>absurd h (Nat.lt_irrefl _)) _ _).set (λh=>absurd h (Nat.lt_irrefl _)) _ _⟩
   ·simp[results,Tryz.results232,go_sem,q0,q1]
   rw[if_pos rfl];exact hC.keep b3.out (.refl _ _) (((Kp.refl (λt=>t=4) _ _).set (λ_=>X.out.r4) _ _).set (λ_=>X.out.r4) _ _) (by omega) (by omega)
  have ap:(x.op == 17)=false:=by simpa using h17
  rw[if_neg h17] at HV;have ba:=hid h17;clear h17;have ah:Kp (λt=>t=K) T1 wr (wr.setCell (O fb 12) (J ((k:Int)+1))):=(Kp.refl _ _ _).set (λ_=>HF.out.tag) _ _;have Y:Below (wr.setCell (O fb 12) (J ((k:Int)+1))).heap.size (wr.setCell (O fb 12) (J ((k:Int)+1))) ((wr.setCell (O fb 12) (J ((k:Int)+1))).alloc (qE x)).drew:=(Bg _ _).drew;have b9:(wr.setCell (O fb 12) (J ((k:Int)+1))).heap.size=wr.heap.size:=by simp
  have a0:Kp (λt=>t=K) T1 wr ((wr.setCell (O fb 12) (J ((k:Int)+1))).alloc (qE x)).drew:=ah.on Y;have a9:=(HF.out.pcAt ah ((k:Int)+1) (xir HF.out.box _)).later Y;have aw:=HM.out.keep (.refl _ _) a0 (by omega) (by omega) (by omega);have ak:=hC.keep X.out.lk (.refl _ _) a0 (by omega) (by omega);have ab:FOk p.E.cz m.heap.length { f with pc:=(k:Int)+1 }:=⟨X.out.fo.self,X.out.fo.args,X.out.fo.temps,X.out.fo.stack,X.out.fo.code,X.out.fo.plain⟩
  have a5:=xpQ hC U aw a9 ak X.out.min ab (by have:=X.out.room;show f.stack.length<=_;omega) hd (k:Int) x (λhf ax=>X.out.gd hf x (List.mem_of_getElem? HX.out) ax);have ai:x∈f.code:=List.mem_of_getElem? HX.out;have ad:=X.out.fo.code x ai;have P1:=hid (xol hC.ok (xoL hC.ok d) d X.out.min.heap ab (k:Int) ad.1 ad.2);have P2:=hid (xnh (xl7 p.E d) d X.out.min.sz_.2 { f with pc:=(k:Int)+1 } (k:Int) x);have P3:=hid (xej (Ls p.E d) p.E d m { f with pc:=(k:Int)+1 } (k:Int) x);have P4:Hid ((BD (BL p.E d) p.E d m { f with pc:=(k:Int)+1 } (k:Int) x).2.2=0->(BD (BL p.E d) p.E d m { f with pc:=(k:Int)+1 } (k:Int) x).1.tz<=300):=λh0=>xqg (xsd p.E d) d X.out.min.tz.2 (f:={ f with pc:=(k:Int)+1 }) h0;have P5:Hid (Mn (BD (BL p.E d) p.E d m { f with pc:=(k:Int)+1 } (k:Int) x).2.1):=xqZ (f:={ f with pc:=(k:Int)+1 }) X.out.gd (k:Int) x
  have P7:Hid ((BD (BL p.E d) p.E d m { f with pc:=(k:Int)+1 } (k:Int) x).2.2=0->(BD (BL p.E d) p.E d m { f with pc:=(k:Int)+1 } (k:Int) x).2.1.stack.length+Cz (BD (BL p.E d) p.E d m { f with pc:=(k:Int)+1 } (k:Int) x).1 (BD (BL p.E d) p.E d m { f with pc:=(k:Int)+1 } (k:Int) x).2.1<=1000000):=λh0=>by
   have:=xnj (Ls p.E d) (E:=p.E) (d:=d) (x:=x) X.out.min.tz.1 (f:=f) (by rw[a1.out];omega) (by rw[a1.out];simpa using ag) (by rw[a1.out];exact h0) X.out.room;rw[a1.out] at this;exact this
  have P6:Hid ((BD (BL p.E d) p.E d m { f with pc:=(k:Int)+1 } (k:Int) x).2.2=0->Cz (BD (BL p.E d) p.E d m { f with pc:=(k:Int)+1 } (k:Int) x).1 (BD (BL p.E d) p.E d m { f with pc:=(k:Int)+1 } (k:Int) x).2.1<Cz m f):=λh0=>by
   have:=xi1 (Ls p.E d) (E:=p.E) (d:=d) (x:=x) X.out.min.tz.1 (f:=f) (by rw[a1.out];omega) (by rw[a1.out];simpa using ag) (by rw[a1.out];exact h0);rw[a1.out] at this;exact this
  clear a9 aw ak ab ad;generalize BD (BL p.E d) p.E d m { f with pc:=(k:Int)+1 } (k:Int) x=r at *;go_wp2_with fail;refine a5.mono ?_;rintro e w3 ⟨rfl,⟨T3,z,⟨W,g3,s3,F⟩,N,Q⟩,q⟩;have a4:=X.out.sz;have ae:w.heap.size<((wr.setCell (O fb 12) (J ((k:Int)+1))).alloc (qE x)).drew.heap.size:=Cd a4 a0.size;have q0:=q.cell (a0.cell X.out.r0 (by rw[X.out.r4];omega)) (by rw[X.out.r4];unfold CF;omega);have q1:=q.cell (a0.cell X.out.r1 (by rw[X.out.r4];omega)) (by rw[X.out.r4];unfold CF;omega);have qf:∀o,w3.frozen? (O w.heap.size o)=false:=λo=>Mw q ae (by rw[X.out.r4];unfold CF;omega) (Mw a0 a4 (by rw[X.out.r4];omega) (X.out.rf o));have aq:=hid (X.out.ext.trans X.out.kp.size (λb hb=>z b (Cd hb a0.size)));have an:=hid ((X.out.kp.trans X.out.ext (a0.mono (S':=CF K) λt h=>by unfold CF;omega)).trans X.out.ext q);have aa:Hid (T3 w.heap.size=4):=by show _=_;rw[z _ ae];exact X.out.r4
  have b1:Hid (w.heap.size<w3.heap.size):=Cd ae q.size;have al:=hid F;have aj:=hid N;have b4:=hid Q;clear a5 z F N Q q a7 Z am i0 i1 i2 i3 i4 ah Y a0 ae;by_cases he:r.2.2=0
  ·have b0:(r.2.2 != 0)=false:=by simpa using he
   have a2:=hid he;rw[if_neg (by simpa using he)] at HV;go_wp2;go_roundg G'
   case measure=>have:=au.out;omega
   case rel=>
    have a6:=aj.out;rw[if_pos a2.out] at a6;have ao:=P1.out;refine⟨T3,r.1,r.2.1,aq.out,an.out,⟨_,_,_,al.out⟩,b4.out a2.out,a6,⟨ao.1.heap,⟨by have:=P2.out;have:=X.out.min.sz_;omega,P2.out.1⟩,⟨by have:=P3.out;have:=X.out.min.tz;omega,P4.out a2.out⟩⟩,ao.2 a2.out,P5.out,P7.out a2.out,?_,HV.out.symm,q0,q1,qf,aa.out,b1.out⟩;have h1:=P6.out a2.out;have h2:=X.out.mu;have h3:=au.out;omega
  have b0:(r.2.2 != 0)=true:=by simpa using he
  have a2:=hid he;rw[if_pos he] at HV;clear he;go_wp2;rw[HV.out];refine Bt (v:=.tuple #[VV BC,J r.2.2]) ?_ rfl ⟨rfl,⟨T3,aq.out,⟨_,_,_,al.out.keep (.refl _ _) (((Kp.refl (λt=>t=4) _ _).set (λ_=>aa.out) _ _).set (λ_=>aa.out) _ _) (by omega) (by omega) (by omega)⟩,?_⟩,(an.out.set (λh=>absurd h (Nat.lt_irrefl _)) _ _).set (λh=>absurd h (Nat.lt_irrefl _)) _ _⟩
  ·simp[results,Tryz.results232,go_sem,q0,q1]
  have a6:=aj.out;rw[if_neg a2.out] at a6 ⊢;exact hC.keep a6 (.refl _ _) (((Kp.refl (λt=>t=4) _ _).set (λ_=>aa.out) _ _).set (λ_=>aa.out) _ _) (by omega) (by omega)
end
section
variable {σ:Type}
def Gs (E:Env σ)(X:QW)(st0:σ)(s:QV)(name:ByteArray)(args:List QV):Mc σ × QV × Int:=
 BL E 20 ⟨X.heap,0,0,st0⟩ (BF X.cz (Ch X.heap s) name).1 (BF X.cz (Ch X.heap s) name).2 s args
def Ny (X:QW)(r:Mc σ × QV × Int):Ran:=if r.2.2≠0 then ⟨X.heap,BC,r.2.2,r.1.sz_⟩ else ⟨r.1.heap,r.2.1,0,r.1.sz_⟩
def DQ (E:Env σ)(X:QW)(st0:σ)(s:QV)(name:ByteArray)(args:List QV)(fuel:Int):Ran × σ:=
 if EY X s name args fuel≠0 then (⟨X.heap,BC,EY X s name args fuel,0⟩,st0) else (Ny X (Gs E X st0 s name args),(Gs E X st0 s name args).1.st)
end
theorem xef (X:QW)(s:QV)(name:ByteArray)(a:List QV)(fuel:Int):(DQ (Ht X fuel) X () s name a fuel).1=Dz X s name a fuel:=by
 unfold DQ Dz;split<;>rfl
theorem Pn {xs:List QC}{c n:Int}{mt:QM}(h:Cp xs c n=some mt):∃(kc kn:Nat) (x:QC),c=(kc:Int)/\n=(kn:Int)/\xs[kc]?=some x/\x.mz[kn]?=some mt:=by
 unfold Cp at h
 cases a:Cy xs c with
 | none=>rw[a] at h;cases h
 | some x=>
  rw[a] at h;obtain⟨k,rfl,b⟩:=Gl a;simp only[Option.bind_some] at h;split at h
  ·exact⟨k,n.toNat,x,rfl,by omega,b,h⟩
  cases h
section
variable {σ:Type}
variable {p:Mp σ} {L:(Nat->Nat)->World->σ->Nat->Prop} {LF QF:Nat} {lc qc:Array Value} {T T':Nat->Nat} {w w':World} {mb:Nat} {m m':Mc σ} {hv:Value} {g:Nat} {s:Nat->Nat} {K fb:Nat} {f:Fr} {cv av tv sv kv:Value}
theorem xo9 (c n:Int)(w:qW):Calls Tryz.prog 110 #[J c,J n] w λe w'=>e=.returned (.tuple #[Lp 0 ⟨#[]⟩ 0 0 (qN),.bool false])/\qY w w':=by
 go_enter Tryz.func110,Tryz.ntmps110;go_wp2;refine Bt (v:=.tuple #[Lp 0 ⟨#[]⟩ 0 0 (qN),.bool false]) ?_ rfl ⟨rfl,Bg _ _⟩;simp[results,Tryz.results110,go_sem]
structure EnR (w:qW)(sf:QV)(w':qW):Prop where
 s0:w'.cell? (O w.heap.size 0)=some (J sf.k)
 s1:w'.cell? (O w.heap.size 1)=some (J sf.n)
 r0:w'.cell? (O (w.heap.size+1) 0)=some (J 0)
 r1:w'.cell? (O (w.heap.size+1) 1)=some (J 0)
 rf:∀o,w'.frozen? (O (w.heap.size+1) o)=false
 sz:w.heap.size+2<=w'.heap.size
theorem EnR.kp {w:qW}{self:QV}{w' w'':qW}{S:Nat->Prop}{T:Nat->Nat}(h:EnR w self w')(k:Kp S T w' w'')(b:¬ S (T w.heap.size))(a:¬ S (T (w.heap.size+1))):EnR w self w'':=
 ⟨k.cell h.s0 b,k.cell h.s1 b,k.cell h.r0 a,k.cell h.r1 a,λo=>Mw k (by have:=h.sz;omega) a (h.rf o),BX h.sz k.size⟩
theorem xrt (w:qW)(self:QV):EnR w self ((w.alloc (qH self)).alloc (qQ)):=by
 obtain⟨a0,a1,r0,r1,rf,sz⟩:=xnv w self;exact⟨a0,a1,r0,r1,rf,sz⟩
theorem EnPost.fin {a:Int}{T1:Nat->Nat}{U:qW}{r:Mc σ × QV × Int}(e:Cx p L LF lc QF qc)(f:Ext T T1 w)(i:MacAt p T1 U mb r.1 a hv g s)(d:L T1 U r.1.st (if r.2.2=0 then FM p.E r.1 else 0))(c:Kp (CF K) T w U)(b:T1 (w.heap.size+1)=4)(u0 u1:Value):EnPost p L T w mb a K r (.returned (.tuple #[VV r.2.1,J r.2.2])) ((U.setCell (O (w.heap.size+1) 0) u0).setCell (O (w.heap.size+1) 1) u1):=by
 have k:Kp (λt=>t=4) T1 U ((U.setCell (O (w.heap.size+1) 0) u0).setCell (O (w.heap.size+1) 1) u1):=((Kp.refl (λt=>t=4) _ _).set (λ_=>b) _ _).set (λ_=>b) _ _;exact⟨rfl,⟨T1,f,⟨_,_,_,i.keep (.refl _ _) k (by omega) (by omega) (by omega)⟩,e.keep d (.refl _ _) k (by omega) (by omega)⟩,(c.set (λh=>absurd h (by omega)) _ _).set (λh=>absurd h (by omega)) _ _⟩
def xq7 (E:Env σ):Nat->Mc σ->Fr->Mc σ × QV × Int
 | 0=>λm _=>(m,BC,14)
 | d+1=>λm f=>CX (BL E d) E d (Hn f) m f
theorem xq9 (E:Env σ)(d:Nat):BL E d=El E d (xq7 E d):=by cases d<;>rfl
theorem FrNew.later (h:FrNew T K w fb f cv av)(a:qY w w'):FrNew T K w' fb f cv av:=⟨Bs h.box a,h.tag,h.args.fx BZ (.refl _ _) (Kp.of_below (S:=λ_=>False) a) id,h.meth.fx BR (.refl _ _) (Kp.of_below (S:=λ_=>False) a) id,h.pos,h.stack⟩
theorem xnF {c k:Int}{mt:QM}{self:QV}{a:List QV}(h:FrNew T K w fb ⟨c,mt,self,a,[],[],[],0,false⟩ cv av)(E:Env σ)(fc:Int)(fn:ByteArray)(fe ft:Int)(kq:Value)(f:∀q,E.quick c k=some q->ft=q.2/\Cm (Fx T w) w kq q.1):Calls Tryz.prog 231 #[qP fb,Lp fc fn fe ft kq,.bool (E.quick c k).isSome] w λe w'=>e=.returned (.tuple #[])/\∃T' tv sv kv,Ext T T' w/\FrAt T' K w' fb (CW E c k mt self a) cv av tv sv kv/\Kp (λt=>t=K) T w w':=by
 unfold CW
 cases d:E.quick c k with
 | none=>exact xkt h rfl kq fc fn fe ft
 | some q=>
  obtain⟨rfl,b⟩:=f q d;exact xl9 h kq fc fn fe q.2 q.1 b
theorem xpb (E:Env σ)(c k:Int)(mt:QM)(self:QV)(a:List QV):(CW E c k mt self a).cls=c/\(CW E c k mt self a).meth=mt/\(CW E c k mt self a).self=self/\(CW E c k mt self a).args=a/\(CW E c k mt self a).stack=[]:=by
 unfold CW;split<;>exact⟨rfl,rfl,rfl,rfl,rfl⟩
theorem xpy (b:Cx p L LF lc QF qc){h:Int}{c k:Int}{mt:QM}(d:Cp p.E.cz c k=some mt){self:QV}{a:List QV}(e:Cn h self=0)(g:VsOk h a):FOk p.E.cz h (CW p.E c k mt self a)/\Mn (CW p.E c k mt self a)/\Hn (CW p.E c k mt self a)<=1000000:=by
 obtain⟨f1,f2⟩:=b.few c k mt d;unfold CW
 cases f:p.E.quick c k with
 | none=>exact⟨⟨e,g,xgd _ _,(λv hv=>by cases hv),b.ok.meths _ _ _ d,b.ok.meths _ _ _ d⟩,(λh=>by cases h),by unfold Hn;simp only;omega⟩
 | some q=>
  obtain⟨g1,g2⟩:=f2 q f;exact⟨⟨e,g,xgd _ _,(λv hv=>by cases hv),b.ok.fast _ _ _ f,b.ok.meths _ _ _ d⟩,λ_=>g2,by unfold Hn;simp only;omega⟩
theorem xjw (hC:Cx p L LF lc QF qc)(d:Nat)(hd:d<=20)(af:∀d',d=d'+1->NM p L d'):NM p L d:=by
 intro K T w mb m hv g s c n self a av ag h hL hI a2 a4 hA;have hX:=EW T w 4;have ce:∀b,w.heap.size<=b->Dw T w 4 b=4:=λb hb=>Gr hb;have b9:=BG w (qH self) (qQ);have bx:=(h.tagged0 4).later b9;have cx:=(xfh hA BZ 4).fx BZ (.refl _ w) (Kp.of_below (S:=λ_=>False) b9) id;have cr:=hC.keep (hC.keep hL hX (Kp.refl (λ_=>False) _ _) id id) (.refl _ _) (Kp.of_below (S:=λ_=>False) b9) id id;have d9:=xrt w self;have dm:Hid (Kp (CF K) T w ((w.alloc (qH self)).alloc (qQ))):=Kp.of_below b9;obtain⟨aa,ca,rfl,-⟩:=id hA;have ed:=By h.box;clear h hA hL;generalize Dw T w 4=T1 at *;have t0:T1 w.heap.size=4:=ce _ (Bq _);have t1:T1 (w.heap.size+1)=4:=ce _ (by omega);go_enter Tryz.func191,Tryz.ntmps191;go_upto_region 1 with (fail);generalize ((w.alloc (qH self)).alloc (qQ))=W at *;have bh:=xpt bx c n;have bd:Hid (BL p.E d m c n self a=El p.E d (xq7 p.E d) m c n self a):=by show _=_;rw[xq9]
 go_wp2_with fail;refine bh.mono ?_;rintro e w1 ⟨rfl,q⟩;have az:=bx.later q;have c9:=cx.fx BZ (.refl _ _) (Kp.of_below (S:=λ_=>False) q) id;have be:=hC.keep cr (.refl _ _) (Kp.of_below (S:=λ_=>False) q) id id;have bf:=d9.kp (T:=T1) (S:=λ_=>False) (Kp.of_below q) id id;have bv:=hid (dm.out.on q);clear bh bx cx cr d9 q b9;obtain⟨s0,s1,r0,r1,rf,sz⟩:=id bf
 cases au:Cp p.E.cz c n with
 | none=>
  have HE:Hid (BL p.E d m c n self a=(m,BC,10)):=by show _=_;rw[bd.out];unfold El;rw[au]
  clear au bd;have Q:=λu0 u1=>EnPost.fin (r:=(m,BC,10)) hC hX az (by rw[if_neg (by simp)];exact hC.mono be (Nat.zero_le _)) bv.out t1 u0 u1;have HQ:=hid Q;clear Q az be c9 bf;go_wp2;rw[HE.out];refine Bt (v:=.tuple #[VV BC,J 10]) ?_ rfl (HQ.out _ _);simp[results,Tryz.results191,go_sem,r0,r1]
 | some mt=>
  obtain⟨kc,kn,xc,rfl,rfl,M,H⟩:=Pn au;obtain⟨ac,cc,a8,aj,b8,-,G⟩:=az.cls;obtain⟨bc,oc,a6,-,e0,e1,e2,e3,mv,e4,ae⟩:=G kc xc M;obtain⟨am,cm,rfl,an,a9,-,B⟩:=ae;obtain⟨bm,om,rfl,al,f0,f1,f2,f3,f4,cv,f5,o⟩:=B kn mt H;obtain⟨ak,ck,rfl,-⟩:=id o;have m0:=az.c0;rw[a8,a6] at m0;simp only[Nat.add_zero] at e0 f0;unfold maxLen at b8 a9;have l1:=Bz M;have l2:=Bz H;have c1:(kc:Int)<(p.E.cz.length:Int):=by omega
  have c2:(kn:Int)<(xc.mz.length:Int):=by omega
  have c3:(0:Int)<=(kc:Int):=by omega
  have c4:(0:Int)<=(kn:Int):=by omega
  clear G B a8 a6 M H;have ap:=Bg w1 (qD mt ak ck);have b5:=az.later ap;have ba:=c9.fx BZ (.refl _ _) (Kp.of_below (S:=λ_=>False) ap) id;have bl:=o.fx BR (.refl _ _) (Kp.of_below (S:=λ_=>False) ap) id;have b7:=hC.keep be (.refl _ _) (Kp.of_below (S:=λ_=>False) ap) id id;have aw:=bf.kp (T:=T1) (S:=λ_=>False) (Kp.of_below ap) id id;have b0:=Bp w1 #[qZ mt.name,J mt.args,J mt.temps,J mt.prim,qS ak mt.code.length ck] 51 _ rfl 0;have b1:=Bp w1 #[qZ mt.name,J mt.args,J mt.temps,J mt.prim,qS ak mt.code.length ck] 51 _ rfl 1;have b2:=Bp w1 #[qZ mt.name,J mt.args,J mt.temps,J mt.prim,qS ak mt.code.length ck] 51 _ rfl 2;have b3:=Bp w1 #[qZ mt.name,J mt.args,J mt.temps,J mt.prim,qS ak mt.code.length ck] 51 _ rfl 3;have b4:=Bp w1 #[qZ mt.name,J mt.args,J mt.temps,J mt.prim,qS ak mt.code.length ck] 51 _ rfl 4;have bg:=hid (bv.out.on ap);have tm:T1 w1.heap.size=4:=ce _ (by omega);have dt:w1.heap.size<(w1.alloc (qD mt ak ck)).heap.size:=by simp
  go_upto_region 4 with (fail);clear az c9 be bf s0 s1 r0 r1 rf sz e0 e1 e2 e3 e4 f0 f1 f2 f3 f4 f5 m0 o ap bv;generalize (w1.alloc (qD mt ak ck))=V at *;simp only[List.getElem?_toArray,List.getElem?_cons_zero,List.getElem?_cons_succ] at b0 b1 b2 b3 b4;generalize w1.heap.size=MBk at *;obtain⟨s0,s1,r0,r1,rf,sz⟩:=id aw
  have HN:Hid (BL p.E d m kc kn self a=if mt.args≠a.length then (m,BC,8) else if mt.prim≠0 then GY p.E m mt.prim self a else if (BY p.E d m).2≠0 then (m,BC,(BY p.E d m).2) else xq7 p.E d (BY p.E d m).1 (CW p.E kc kn mt self a)):=by
   show _=_;rw[bd.out];unfold El GY;rw[au]
  have de:=hid au;clear au bd;by_cases hag:mt.args=(a.length:Int)
  ·have dh:(mt.args != (a.length:Int))=false:=by simpa using hag
   rw[if_neg (by simpa using hag)] at HN;have e8:=hid hag;clear hag;by_cases hpr:mt.prim=0
   ·have dk:(mt.prim != 0)=false:=by simpa using hpr
    rw[if_neg (by simpa using hpr)] at HN;have ea:=hid hpr;clear hpr;have b8:=xe6 d b5 hI.sz_.1 (by have:=hC.fuel;omega) rfl hd;obtain⟨m3,e3,j⟩:∃m3 e3,BY p.E d m=(m3,e3):=⟨_,_,rfl⟩;rw[j] at b8 HN;go_wp2_with fail;refine b8.mono ?_;rintro e w3 ⟨rfl,l,i⟩;have b6:=aw.kp i (by rw[t0];omega) (by rw[t1];omega);have ar:=hC.keep b7 (.refl _ _) i (by omega) (by omega);have ch:=ba.fx BZ (.refl _ _) i (by omega);have bj:=bl.fx BR (.refl _ _) i (by omega);have d0:=i.cell b0 (by rw[tm];omega);have d1:=i.cell b1 (by rw[tm];omega);have d2:=i.cell b2 (by rw[tm];omega);have d3:=i.cell b3 (by rw[tm];omega);have d4:=i.cell b4 (by rw[tm];omega);have c6:=hid (bg.out.trans hX (i.mono (S':=CF K) λt h=>Or.inl h));have cs:MBk<w3.heap.size:=Cd dt i.size;clear b8 b5 ba b7 aw s0 s1 r0 r1 rf sz b0 b1 b2 b3 b4 i bl;obtain⟨s0,s1,r0,r1,rf,sz⟩:=id b6;by_cases her:e3=0
    ·subst her;have d5:((0:Int) != 0)=false:=by simp
     rw[if_neg (by simp)] at HN
     obtain⟨ab,y,ai⟩:d≠0/\m3={ m with sz_:=m.sz_+1 }/\¬ p.E.fuel<=m.sz_:=by
      unfold BY at j;split at j
      ·cases j
      rename_i k;split at j
      ·cases j
      rename_i k2;exact⟨k2,(congrArg Prod.fst j).symm,k⟩
     obtain⟨d',rfl⟩:∃d',d=d'+1:=⟨d-1,by omega⟩
     clear ab j;obtain⟨a7,a3,a1⟩:=xpy hC de.out a2 a4;have bi:=(xpb p.E kc kn mt self a).2.2.2.2;have dp:Hid (BL p.E (d'+1) m kc kn self a=CX (BL p.E d') p.E d' (Hn (CW p.E kc kn mt self a)) m3 (CW p.E kc kn mt self a)):=HN.out;clear HN
     have bu:MIn p.E m3:=by
      rw[y];exact⟨hI.heap,⟨by have:=hI.sz_;simp only;omega,by simp only;omega⟩,hI.tz⟩
     have bq:FOk p.E.cz m3.heap.length (CW p.E kc kn mt self a):=by
      rw[y];exact a7
     have bp:(CW p.E kc kn mt self a).stack.length+Cz m3 (CW p.E kc kn mt self a)<=1000000:=by
      have:=PT (f:=CW p.E kc kn mt self a) bu.tz.1;rw[bi];simp only[List.length_nil];omega
     clear a7 a1 bi
     have bk:L T1 w3 m3.st (FM p.E m3):=by
      rw[y];exact hC.mono ar (by unfold FM;simp only;omega)
     clear ar y ai;have ec:Hid (MBk<w3.heap.size):=cs;have q8:=l.c8;rw[hC.qv] at q8;have cf:=Bg w3 (FB ⟨kc,mt,self,a,[],[],[],0,false⟩ (qS ak mt.code.length ck) (qS aa a.length ca) (qN) (qN) (qN));have ao:Ext T1 (GV T1 w3.heap.size K) w3:=xgj (Bq _);have ax:Kp (λ_=>False) T1 w3 _:=Kp.of_below cf;have ci:=l.keep ao ax id id id;have cd:=hC.keep bk ao ax id id;have cy:=b6.kp (T:=T1) ax id id
     have bn:FrNew (GV T1 w3.heap.size K) K (w3.alloc (FB ⟨kc,mt,self,a,[],[],[],0,false⟩ (qS ak mt.code.length ck) (qS aa a.length ca) (qN) (qN) (qN))) w3.heap.size ⟨kc,mt,self,a,[],[],[],0,false⟩ (qS ak mt.code.length ck) (qS aa a.length ca):=
      ⟨BH w3 _,xfg _ _ _,ch.fx BZ ao ax id,bj.fx BR ao ax id,ag,rfl⟩
     have dn:=hid (c6.out.on cf);have t04:GV T1 w3.heap.size K w.heap.size=4:=by rw[ao _ (by omega)];exact t0
     have t14:GV T1 w3.heap.size K (w.heap.size+1)=4:=by rw[ao _ (by omega)];exact t1
     have di:Hid (Ext T (GV T1 w3.heap.size K) w):=hX.trans c6.out.size ao;have q84:=ci.c8;rw[hC.qv] at q84;have dl:=hC.qcf;go_upto_region 12 with (fail);generalize GV T1 w3.heap.size K=T4 at *;generalize (w3.alloc (FB ⟨kc,mt,self,a,[],[],[],0,false⟩ (qS ak mt.code.length ck) (qS aa a.length ca) (qN) (qN) (qN)))=V4 at *;clear d0 d1 d2 d3 d4 s0 s1 r0 r1 rf sz q8 l bk b6 ch bj cf ax ao;go_wp2_with fail;refine (hC.quick T4 V4 _ kc kn mt _ cd de.out).mono ?_;rintro e w5 ⟨⟨fc,fn,fe,ft,aq,nq,cq,rfl,ah⟩,D⟩;have bs:Kp (λ_=>False) T4 V4 w5:=Kp.of_below D;have cn:=ci.later D;have d7:=hC.keep cd (.refl _ _) bs id id;have cg:=cy.kp bs id id;have bb:=bn.later D;have db:=hid (dn.out.on D);clear ci cd cy bn q84 bs;go_wp2_with fail;refine (xnF bb p.E fc fn fe ft _ ah).mono ?_;rintro e w6 ⟨rfl,T6,tv,sv,kv,z,a5,C⟩;have ay:=cn.keep z C (by omega) (by omega) (by omega);have dj:=hC.keep d7 z C (by omega) (by omega);have df:=cg.kp C (by rw[t04];omega) (by rw[t14];omega);have dy:=cg.sz;have t06:T6 w.heap.size=4:=by rw[z _ (by omega)];exact t04
     have t16:T6 (w.heap.size+1)=4:=by rw[z _ (by omega)];exact t14
     have cb:=hid (di.out.trans db.out.size z);have du:=hid (db.out.trans di.out (C.mono (S':=CF K) λt h=>by unfold CF;omega));clear cn d7 cg bb z C;have m5:=ay.c5;have mf:=BN ay.box;have dd:IntKind.i64.wrap (20-((d'+1:Nat):Int)+1)=20-(d':Int):=by rw[CM (by omega) (by omega)];omega
     have bo:IntKind.i64.wrap (20-(d':Int)-1)=20-((d'+1:Nat):Int):=by rw[CM (by omega) (by omega)];omega
     obtain⟨cA,Z⟩:∃cA:Int,cA=20-((d'+1:Nat):Int):=⟨_,rfl⟩;obtain⟨cB,X⟩:∃cB:Int,cB=20-(d':Int):=⟨_,rfl⟩;rw[← Z] at m5 dd bo;rw[← X] at dd bo;have dw:=hid Z;have cw:=hid X;clear Z X;have k7:Kp (λt=>t=1) T6 w6 (w6.setCell (O mb 5) (J cB)):=(Kp.refl _ _ _).set (λ_=>ay.tag) _ _;have cl:MacAt p T6 (w6.setCell (O mb 5) (J cB)) mb m3 (20-(d':Int)) hv g s:=ay.turn (m':=m3) k7 (by rw[xoi ay.box,cw.out]) rfl;have cp:=a5.keep (.refl _ _) k7 (by omega) (by omega) (by omega) (by omega);have d8:=hC.keep dj (.refl _ _) k7 (by omega) (by omega);have bz:=df.kp k7 (by rw[t06];omega) (by rw[t16];omega);have ct:=hid (du.out.trans cb.out (k7.mono (S':=CF K) λt h=>Or.inl h));have br:=xmM hC (by omega) (af d' rfl) cl cp d8 bu bq a3 bp;generalize CX (BL p.E d') p.E d' (Hn (CW p.E kc kn mt self a)) m3 (CW p.E kc kn mt self a)=R at *;go_wp2_with fail;refine (br).mono ?_;rintro e w8 ⟨rfl,⟨T8,F,⟨ad,g8,s8,u⟩,N⟩,a0⟩;obtain⟨rm,v,er⟩:=R;simp only at u N;have bw:=bz.kp a0 (by rw[t06];unfold CF;omega) (by rw[t16];unfold CF;omega);have e7:=bz.sz;have t18:T8 (w.heap.size+1)=4:=by rw[F _ (by omega)];exact t16
     have t08:T8 w.heap.size=4:=by rw[F _ (by omega)];exact t06
     have da:=hid (cb.out.trans ct.out.size F);have dv:=hid (ct.out.trans cb.out a0);have m58:=u.c5;rw[← cw.out] at m58;have mf8:=BN u.box;have e5:mb<w8.heap.size:=By u.box;have e9:¬ mb=w8.heap.size:=by omega
     have dz:¬ w8.heap.size=mb:=by omega
     have c7:=hid u;have dx:=hid N;clear br cl cp d8 bz ay a5 dj df k7 m5 mf F a0 u N bu bq a3 bp dl;have kS:Kp (λt=>t=1) T8 w8 (w8.setCell (O mb 5) (J cA)):=(Kp.refl _ _ _).set (λ_=>c7.out.tag) _ _;have co:MacAt p T8 (w8.setCell (O mb 5) (J cA)) mb rm (20-((d'+1:Nat):Int)) ad g8 s8:=c7.out.turn (m':=rm) kS (by rw[xoi c7.out.box,dw.out]) rfl;have bt:Below (w8.setCell (O mb 5) (J cA)).heap.size (w8.setCell (O mb 5) (J cA)) ((w8.setCell (O mb 5) (J cA)).alloc (qH v)):=Bg _ _;have kU:=kS.on bt;have cu:=co.later bt;have cj:=hC.keep dx.out (.refl _ _) kU (by omega) (by omega);have dq:=bw.kp kU (by rw[t08];omega) (by rw[t18];omega);have v0:((w8.setCell (O mb 5) (J cA)).alloc (qH v)).cell? (O w8.heap.size 0)=some (J v.k):=Bp _ _ _ _ (by simp) 0;have v1:((w8.setCell (O mb 5) (J cA)).alloc (qH v)).cell? (O w8.heap.size 1)=some (J v.n):=Bp _ _ _ _ (by simp) 1;have HQ:=hid λu0 u1=>EnPost.fin (r:=(rm,v,er)) hC da.out cu cj (dv.out.trans da.out (kU.mono λt h=>Or.inl h)) t18 u0 u1;clear cu cj kU kS co bt;go_upto_region 16 with (fail);generalize ((w8.setCell (O mb 5) (J cA)).alloc (qH v))=U at *;obtain⟨s0,s1,r0,r1,rf,sz⟩:=id dq;have eb:¬ w.heap.size+1=w8.heap.size:=by have:=bw.sz;omega
     have e6:¬ w8.heap.size=w.heap.size+1:=by have:=bw.sz;omega
     go_wp2;rw[dp.out];refine Bt (v:=.tuple #[VV v,J er]) ?_ rfl (HQ.out _ _);simp[results,Tryz.results191,go_sem,r0,r1]
    have d5:(e3 != 0)=true:=by simpa using her
    rw[if_pos her] at HN
    have y:m3=m:=by
     have:(BY p.E d m).2≠0:=by rw[j];exact her
     unfold BY at j this;split at j
     ·exact (congrArg Prod.fst j).symm
     rename_i k;rw[if_neg k] at this;split at j
     ·exact (congrArg Prod.fst j).symm
     rename_i k2;rw[if_neg k2] at this;exact absurd rfl this
    subst y;have HQ:=hid λu0 u1=>EnPost.fin (r:=(m3,BC,e3)) hC hX l (by rw[if_neg her];exact hC.mono ar (Nat.zero_le _)) c6.out t1 u0 u1;clear l ar ch b6 j;go_wp2;rw[HN.out];refine Bt (v:=.tuple #[VV BC,J e3]) ?_ rfl (HQ.out _ _);simp[results,Tryz.results191,go_sem,r0,r1]
   have dk:(mt.prim != 0)=true:=by simpa using hpr
   rw[if_pos (by simpa using hpr)] at HN;clear hpr
   have dc:∀v:QV,Cn m.heap.length v=0->v.k=3->-1073741824<=v.n/\v.n<=1073741824:=λv hv h3=>by
    unfold Cn HG at hv;rw[h3] at hv;simp at hv;omega
   have dg:=xiZ b5 hI.sz_.1 (by have:=hC.fuel;omega) mt.prim self a _ ba (dc _ a2) (dc _ (a4.entry 0))
   have d6:(GY p.E m mt.prim self a).1.st=m.st/\((GY p.E m mt.prim self a).2.2=0->FM p.E (GY p.E m mt.prim self a).1<=(p.E.fuel-m.sz_).toNat):=by
    unfold GY;split
    ·exact⟨rfl,λh=>by cases h⟩
    exact⟨rfl,λ_=>by unfold FM;simp only;omega⟩
   generalize GY p.E m mt.prim self a=r at *;go_wp2_with fail;refine dg.mono ?_;rintro e w3 ⟨rfl,⟨T3,Y,l⟩,i⟩;have b6:=aw.kp i (by rw[t0];omega) (by rw[t1];omega);have ar:=hC.keep b7 Y i (by omega) (by omega);have t3:T3 (w.heap.size+1)=4:=by rw[Y _ (by omega)];exact t1
   have dr:(if r.2.2=0 then FM p.E r.1 else 0)<=(p.E.fuel-m.sz_).toNat:=by
    by_cases h0:r.2.2=0
    ·rw[if_pos h0];exact d6.2 h0
    rw[if_neg h0];exact Nat.zero_le _
   have HQ:=hid λu0 u1=>EnPost.fin (r:=r) hC (hX.trans bg.out.size Y) l (by rw[d6.1];exact hC.mono ar dr) (bg.out.trans hX (i.mono λt h=>Or.inl h)) t3 u0 u1;clear dg b5 ba b7 aw s0 s1 r0 r1 rf sz b0 b1 b2 b3 b4 i l ar;obtain⟨s0,s1,r0,r1,rf,sz⟩:=id b6;go_wp2;rw[HN.out];refine Bt (v:=.tuple #[VV r.2.1,J r.2.2]) ?_ rfl (HQ.out _ _);simp[results,Tryz.results191,go_sem,r0,r1]
  have dh:(mt.args != (a.length:Int))=true:=by simpa using hag
  rw[if_pos (by simpa using hag)] at HN;clear hag;have HQ:=hid λu0 u1=>EnPost.fin (r:=(m,BC,8)) hC hX b5 (by rw[if_neg (by simp)];exact hC.mono b7 (Nat.zero_le _)) bg.out t1 u0 u1;clear b5 ba b7 aw;go_wp2;rw[HN.out];refine Bt (v:=.tuple #[VV BC,J 8]) ?_ rfl (HQ.out _ _);simp[results,Tryz.results191,go_sem,r0,r1]
theorem xji (a:Cx p L LF lc QF qc):∀d,d<=20->NM p L d
 | 0,hd=>xjw a 0 hd (λd' h=>by omega)
 | d+1,hd=>xjw a (d+1) hd (λd' h=>by
   have:d'=d:=by omega
   subst this;exact xji a d' (by omega))
end
theorem Qs {α:Type}{E:CT α}{sz bytes:Nat}{P:Nat->Prop}{w:qW}{v:Value}{xs:List α}(h:IsRow E sz bytes P w v xs)(j:∀f x,E P w f x->E (λb=>b<w.heap.size) w f x/\∃u,f 0=some u):IsRow E sz bytes (λb=>b<w.heap.size) w v xs:=by
 obtain⟨ad,cap,a,e,k,c,d⟩:=h;refine⟨ad,cap,a,e,k,c,λi x g=>?_⟩;obtain⟨b,o,e1,e2,e3⟩:=d i x g;obtain⟨k1,u,k2⟩:=j _ _ e3;exact⟨b,o,e1,World.block_lt_of_cell? w _ k2,k1⟩
theorem xh6 {P:Nat->Prop}{w:qW}{v:Value}{xs:List QI}(h:Cm P w v xs):Cm (λb=>b<w.heap.size) w v xs:=Qs h λf x a=>⟨a,_,a.1⟩
theorem xek {P:Nat->Prop}{w:qW}{v:Value}{xs:List QV}(h:CG P w v xs):CG (λb=>b<w.heap.size) w v xs:=Qs h λf x a=>⟨a,_,a.1⟩
theorem xkR {P:Nat->Prop}{w:qW}{v:Value}{xs:List QM}(h:EC P w v xs):EC (λb=>b<w.heap.size) w v xs:=Qs h λf x k=>by
 obtain⟨a,d,j,l,e,c,i,g⟩:=k;exact⟨⟨a,d,j,l,e,c,i,xh6 g⟩,_,a⟩
theorem xdx {P:Nat->Prop}{w:qW}{v:Value}{xs:List QC}(h:BK P w v xs):BK (λb=>b<w.heap.size) w v xs:=Qs h λf x j=>by
 obtain⟨a,d,i,k,c,g,e⟩:=j;exact⟨⟨a,d,i,k,c,g,xkR e⟩,_,a⟩
theorem xfO {P:Nat->Prop}{w:qW}{v:Value}{xs:List QO}(h:BP P w v xs):BP (λb=>b<w.heap.size) w v xs:=Qs h λf x d=>by
 obtain⟨a,c,e,g⟩:=d;exact⟨⟨a,c,e,xek g⟩,_,a⟩
abbrev EL (s:QV)(name:ByteArray)(av:Value):Value:=.agg #[J s.k,J s.n,qZ name,av]
theorem xfk {α:Type}{f:Nat->α->Int}:∀ {l:List α} {k:Nat},(∀i y,l[i]?=some y->f (k+i) y=0)->CP f k l=0
 | [],_,_=>rfl
 | x :: r,k,h=>by
  unfold CP;rw[if_neg (by have:=h 0 x rfl;simpa using this)];exact xfk λi y a=>by have:=h (i+1) y (by simpa using a);rw[show k+1+i=k+(i+1) by omega];exact this
structure WcR (w:qW)(cv hv:Value)(ep:Int)(s:QV)(name:ByteArray)(av:Value)(w':qW):Prop where
 bel:qY w w'
 w0:w'.cell? (O w.heap.size 0)=some cv
 w1:w'.cell? (O w.heap.size 1)=some hv
 w2:w'.cell? (O w.heap.size 2)=some (J ep)
 c0:w'.cell? (O (w.heap.size+1) 0)=some (J s.k)
 c1:w'.cell? (O (w.heap.size+1) 1)=some (J s.n)
 c2:w'.cell? (O (w.heap.size+1) 2)=some (qZ name)
 c3:w'.cell? (O (w.heap.size+1) 3)=some av
theorem WcR.later {w:qW}{cv hv:Value}{ep:Int}{s:QV}{name:ByteArray}{av:Value}{w' w'':qW}(h:WcR w cv hv ep s name av w')(a:qY w' w''):WcR w cv hv ep s name av w'':=
 ⟨Bh h.bel a,Bf a h.w0,Bf a h.w1,Bf a h.w2,Bf a h.c0,Bf a h.c1,Bf a h.c2,Bf a h.c3⟩
theorem xk2 (w:qW)(cv hv:Value)(ep:Int)(s:QV)(name:ByteArray)(av:Value):WcR w cv hv ep s name av ((w.alloc (qC #[cv,hv,J ep] 26)).alloc (qC #[J s.k,J s.n,qZ name,av] 54)):=
 ⟨BG _ _ _,Bf (Bg _ _) (Bp _ _ _ _ rfl 0),Bf (Bg _ _) (Bp _ _ _ _ rfl 1),Bf (Bg _ _) (Bp _ _ _ _ rfl 2),Bp _ _ _ _ (by simp) 0,Bp _ _ _ _ (by simp) 1,Bp _ _ _ _ (by simp) 2,Bp _ _ _ _ (by simp) 3⟩
theorem xnq {P Q:Nat->Prop}(X:QW)(s:QV)(name:ByteArray)(d:List QV)(fuel:Int)(cv hv av:Value)(w:qW)(u:∃a n c,cv=qS a n c)(hH:BP P w hv X.heap)(hA:CG Q w av d)(hn:name.size<=140737488351232):Calls Tryz.prog 139 #[WV cv hv X.ez,EL s name av,J fuel] w λe w'=>e=.returned (J (EY X s name d fuel))/\qY w w':=by
 have hR:=xk2 w cv hv X.ez s name av;obtain⟨ah,ch,rfl,-⟩:=id hH;obtain⟨aa,ca,rfl,B,t,-,h⟩:=id hA;obtain⟨ac,nc,cc,rfl⟩:=u;unfold maxLen at t;go_enter Tryz.func139,Tryz.ntmps139;go_upto_region 1 with (fail);generalize ((w.alloc (qC #[qS ac nc cc,qS ah X.heap.length ch,J X.ez] 26)).alloc (qK s name aa d ca))=W at *;obtain⟨-,w0,w1,w2,c0,c1,c2,c3⟩:=id hR;go_wp2_with fail;refine (Qj name _ hn).mono ?_;rintro e z ⟨rfl,r⟩;have D:=hR.later r;clear w0 w1 w2 c0 c1 c2 c3 hR r;obtain⟨-,w0,w1,w2,c0,c1,c2,c3⟩:=id D
 cases F:DC name with
 | false=>
  have H:Hid (EY X s name d fuel=7):=by show _=_;unfold EY;rw[if_pos F]
  go_wp2;go_ret;exact⟨BT H.out.symm,D.bel⟩
 | true=>
  by_cases h4:4<d.length
  ·have H:Hid (EY X s name d fuel=5):=by show _=_;unfold EY;rw[if_neg (by rw[F];simp),if_pos h4]
   have a0:(4:Int)<(d.length:Int):=by omega
   go_wp2;go_ret;exact⟨BT H.out.symm,D.bel⟩
  have a0:¬ ((4:Int)<(d.length:Int)):=by omega
  by_cases hf:fuel<0
  ·have H:Hid (EY X s name d fuel=3):=by show _=_;unfold EY;rw[if_neg (by rw[F];simp),if_neg h4,if_pos (Or.inl hf)]
   have Z:decide (fuel<0)=true:=by simpa using hf
   go_wp2;go_ret;exact⟨BT H.out.symm,D.bel⟩
  have Z:decide (fuel<0)=false:=by simpa using hf
  by_cases hg:400<fuel
  ·have H:Hid (EY X s name d fuel=3):=by show _=_;unfold EY;rw[if_neg (by rw[F];simp),if_neg h4,if_pos (Or.inr hg)]
   have Y:decide (400<fuel)=true:=by simpa using hg
   go_wp2;go_ret;exact⟨BT H.out.symm,D.bel⟩
  have Y:decide (400<fuel)=false:=by simpa using hg
  have H:Hid (EY X s name d fuel=if Cn X.heap.length s≠0 then Cn X.heap.length s else CP (λ_ v=>Cn X.heap.length v) 0 d):=by show _=_;unfold EY;rw[if_neg (by rw[F];simp),if_neg h4,if_neg (by omega)]
  clear F hf hg;have G:=λw=>xin s (X.heap.length:Int) w;generalize Cn X.heap.length s=ws at *;go_wp2_with fail;refine (G _).mono ?_;rintro e C ⟨rfl,p⟩;have K:=D.later p;clear w0 w1 w2 c0 c1 c2 c3 D p G;obtain⟨-,w0,w1,w2,c0,c1,c2,c3⟩:=id K;by_cases hws:ws=0
  ·have S:(ws != 0)=false:=by simpa using hws
   rw[if_neg (by simpa using hws)] at H;clear hws;go_wp2;clear w0 w1 w2 c0 c1 c2 c3
   go_loopg [40] d.length (λgk c wr=>∃j:Nat,j+gk=d.length/\c=J j/\WcR w (qS ac nc cc) (qS ah X.heap.length ch) X.ez s name (qS aa d.length ca) wr/\∀i y,i<j->d[i]?=some y->Cn X.heap.length y=0)
   case atStart=>exact⟨0,by omega,rfl,K,λi y hi=>by omega⟩
   case round=>
    clear K;obtain⟨j,hj,rfl,g,q⟩:=hrel;have HO:=hid q;clear q;obtain⟨-,w0,w1,w2,c0,c1,c2,c3⟩:=id g;by_cases hlt:j<d.length
    ·have U:d[j]?=some d[j]:=by simp[hlt]
     have HX:=hid U;generalize d[j]=y at *;obtain⟨b,o,rfl,-,v0,v1⟩:=h j y U;simp only[Nat.add_zero] at v0;have u0:=Bf g.bel v0;have u1:=Bf g.bel v1;clear v0 v1 h U;have a1:(j:Int)<(d.length:Int):=by omega
     have a2:(0:Int)<=(j:Int):=by omega
     have G:=λw=>xin y (X.heap.length:Int) w;obtain⟨wy,l⟩:∃wy,wy=Cn X.heap.length y:=⟨_,rfl⟩;rw[← l] at G;have N:=hid l;clear l;have M:=g.later (Bg wr (qH y));have y0:(wr.alloc (qH y)).cell? (O wr.heap.size 0)=some (J y.k):=Bp _ _ _ _ rfl 0;have y1:(wr.alloc (qH y)).cell? (O wr.heap.size 1)=some (J y.n):=Bp _ _ _ _ rfl 1;go_upto_region 13 with (fail);clear w0 w1 w2 c0 c1 c2 c3 u0 u1 g;generalize (wr.alloc (qH y))=V at *;obtain⟨-,w0,w1,w2,c0,c1,c2,c3⟩:=id M;go_wp2_with fail;refine (G _).mono ?_;rintro e w5 ⟨rfl,m⟩;have R:=M.later m;clear w0 w1 w2 c0 c1 c2 c3 M m G y0 y1;by_cases hz:wy=0
     ·have T:(wy != 0)=false:=by simpa using hz
      go_wp2;go_roundg (gk-1)
      case measure=>omega
      case rel=>
       refine⟨j+1,by omega,by go_num,R,λi y' hi L=>?_⟩;by_cases hij:i=j
       ·subst hij;rw[HX.out] at L;cases L;rw[← N.out];exact hz
       exact HO.out i y' (by omega) L
     have T:(wy != 0)=true:=by simpa using hz
     go_wp2;go_ret;refine⟨BT ?_,R.bel⟩;have:=xgN (f:=λ_ v=>Cn X.heap.length v) (k:=0) HX.out (by rw[← N.out];exact hz) (λi y' hi L=>HO.out i y' hi L);rw[H.out,this,N.out]
    obtain rfl:j=d.length:=by omega
    go_wp2;go_ret;refine⟨BT ?_,g.bel⟩;rw[H.out,xfk λi y L=>HO.out i y (Bz L) L]
  have S:(ws != 0)=true:=by simpa using hws
  rw[if_pos hws] at H;go_wp2;go_ret;exact⟨BT H.out.symm,K.bel⟩
structure LkP (X:QW)(b:Nat)(cv hv:Value)(T:Nat->Nat)(w:qW)(st:Unit)(n:Nat):Prop where
 tag:T b=0
 lt:b<w.heap.size
 w0:w.cell? (O b 0)=some cv
 w1:w.cell? (O b 1)=some hv
 w2:w.cell? (O b 2)=some (J X.ez)
 cls:BK (Fx T w) w cv X.cz
 heap:BP (Fx T w) w hv X.heap
theorem LkP.keep {X:QW}{b:Nat}{cv hv:Value}{T T':Nat->Nat}{w w':qW}{st:Unit}{n:Nat}{S:Nat->Prop}(h:LkP X b cv hv T w st n)(e:Ext T T' w)(k:Kp S T w w')(a:¬ S 0):LkP X b cv hv T' w' st n:=
 ⟨by rw[e _ h.lt];exact h.tag,Cd h.lt k.size,k.cell h.w0 (by rw[h.tag];exact a),k.cell h.w1 (by rw[h.tag];exact a),k.cell h.w2 (by rw[h.tag];exact a),h.cls.fx Bw e k a,h.heap.fx BB e k a⟩
theorem xkx {X:QW}{b:Nat}{cv hv:Value}{T:Nat->Nat}{w:qW}{n:Nat}(h:LkP X b cv hv T w () n)(s:QS)(c:Int)(name:ByteArray):Calls Tryz.prog 141 #[SV s,J c,qZ name,qP b] w λe w'=>e=.returned (.tuple #[J (BF X.cz c name).1,J (BF X.cz c name).2])/\qY w w':=by
 have f:=Bg w (qJ s);have g:=h.keep (T':=T) (.refl _ _) (Kp.of_below (S:=λ_=>False) f) id;have i:=λw' (hb:Below (w.alloc (qJ s)).heap.size (w.alloc (qJ s)) w')=>Mb X c name cv hv w' ((g.cls.mono (Q:=λ_=>True) Bw λ_ _=>trivial).later Bw hb) ((g.heap.mono (Q:=λ_=>True) BB λ_ _=>trivial).later BB hb);obtain⟨-,-,w0,w1,w2,j,l⟩:=id g;obtain⟨ac,cc,rfl,-⟩:=id j;obtain⟨ah,ch,rfl,-⟩:=id l;clear h g j l;obtain⟨r1,r2,k⟩:∃r1 r2,BF X.cz c name=(r1,r2):=⟨_,_,rfl⟩;rw[k] at i ⊢;clear k;go_enter Tryz.func141,Tryz.ntmps141;go_upto_region 1 with (fail);generalize (w.alloc (qJ s))=W at *;go_wp2_with fail;refine (i _ (Br _ _)).mono ?_;rintro e d ⟨rfl,a⟩;have m:=hid (Bh f a);clear w0 w1 w2 i a;go_wp2;refine Bt (v:=.tuple #[J r1,J r2]) ?_ rfl ⟨rfl,m.out⟩;simp[results,Tryz.results141,go_sem]
section
variable {σ:Type} {p:Mp σ} {L:(Nat->Nat)->World->σ->Nat->Prop} {LF QF:Nat} {lc qc:Array Value} {T:Nat->Nat} {w:World} {mb:Nat} {m:Mc σ} {hv:Value} {g:Nat} {s:Nat->Nat} {K:Nat}
structure FsR (w:qW)(mb:Nat)(v0 v1:Value)(ep:Int)(s:QV)(name:ByteArray)(av:Value)(w':qW):Prop where
 bel:qY w w'
 m0:w'.cell? (O mb 0)=some v0
 m1:w'.cell? (O mb 1)=some v1
 m2:w'.cell? (O mb 2)=some (J ep)
 c0:w'.cell? (O w.heap.size 0)=some (J s.k)
 c1:w'.cell? (O w.heap.size 1)=some (J s.n)
 c2:w'.cell? (O w.heap.size 2)=some (qZ name)
 c3:w'.cell? (O w.heap.size 3)=some av
 r0:w'.cell? (O (w.heap.size+1) 0)=some (J 0)
 r1:w'.cell? (O (w.heap.size+1) 1)=some (J 0)
 rf:∀o,w'.frozen? (O (w.heap.size+1) o)=false
 sz:w.heap.size+2<=w'.heap.size
theorem FsR.later {w:qW}{mb:Nat}{v0 v1:Value}{ep:Int}{s:QV}{name:ByteArray}{av:Value}{w' w'':qW}(h:FsR w mb v0 v1 ep s name av w')(a:qY w' w''):FsR w mb v0 v1 ep s name av w'':=
 ⟨Bh h.bel a,Bf a h.m0,Bf a h.m1,Bf a h.m2,Bf a h.c0,Bf a h.c1,Bf a h.c2,Bf a h.c3,Bf a h.r0,Bf a h.r1,λo=>(a.frozen (p:=(O (w.heap.size+1) o)) (by have:=h.sz;simp only;omega)).trans (h.rf o),BX h.sz a.size⟩
theorem FsR.al {w:qW}{mb:Nat}{v0 v1:Value}{ep:Int}{s:QV}{name:ByteArray}{av:Value}{w':qW}(h:FsR w mb v0 v1 ep s name av w'):w'.cell? (O mb 0)=some v0/\w'.cell? (O mb 1)=some v1/\w'.cell? (O mb 2)=some (J ep)/\w'.cell? (O w.heap.size 0)=some (J s.k)/\w'.cell? (O w.heap.size 1)=some (J s.n)/\w'.cell? (O w.heap.size 2)=some (qZ name):=⟨h.m0,h.m1,h.m2,h.c0,h.c1,h.c2⟩
theorem xou (hC:Cx p L LF lc QF qc)(h:MacAt p T w mb m 0 hv g s)(hL:L T w m.st (p.E.fuel-m.sz_).toNat)(hI:MIn p.E m)(sf:QV)(name:ByteArray)(a:List QV)(av:Value)(z:Cn m.heap.length sf=0)(F:VsOk m.heap.length a)(hA:CG (Fx T w) w av a)(D:5<=K) :
  Calls Tryz.prog 140 #[qP mb,EL sf name av] w λe w'=>EnPost p L T w mb 0 K (BL p.E 20 m (BF p.E.cz (Ch m.heap sf) name).1 (BF p.E.cz (Ch m.heap sf) name).2 sf a) e w':=by
 have hX:=EW T w 4;have ad:∀b,w.heap.size<=b->Dw T w 4 b=4:=λb hb=>Gr hb;have Y:qY w ((w.alloc (qC #[J sf.k,J sf.n,qZ name,av] 54)).alloc (qQ)).drew:=(BG w _ _).drew;have G:=(h.tagged0 4).later Y;have af:=(xfh hA BZ 4).fx BZ (.refl _ w) (Kp.of_below (S:=λ_=>False) Y) id;have ab:=hC.keep (hC.keep hL hX (Kp.refl (λ_=>False) _ _) id id) (.refl _ _) (Kp.of_below (S:=λ_=>False) Y) id id
 have X:FsR w mb p.cv hv p.ep sf name av ((w.alloc (qC #[J sf.k,J sf.n,qZ name,av] 54)).alloc (qQ)).drew:=by
  refine⟨Y,G.c0,G.c1,G.c2,Bf (Bg _ _).drew (Bp w #[J sf.k,J sf.n,qZ name,av] 54 _ rfl 0),Bf (Bg _ _).drew (Bp w #[J sf.k,J sf.n,qZ name,av] 54 _ rfl 1),Bf (Bg _ _).drew (Bp w #[J sf.k,J sf.n,qZ name,av] 54 _ rfl 2),Bf (Bg _ _).drew (Bp w #[J sf.k,J sf.n,qZ name,av] 54 _ rfl 3),Bp _ _ _ _ (by simp) 0,Bp _ _ _ _ (by simp) 1,λo=>BN (cur:=#[J 0,J 0]) (t:=41) ?_ o,by simp⟩;rw[xgv];have:=BH (w.alloc (qC #[J sf.k,J sf.n,qZ name,av] 54)) (qQ);simpa using this
 have ag:=By h.box;obtain⟨aa,ca,rfl,-⟩:=id hA;clear h hA hL;generalize Dw T w 4=T1 at *;have t1:T1 (w.heap.size+1)=4:=ad _ (by omega);go_enter Tryz.func140,Tryz.ntmps140;go_upto_region 1 with (fail);generalize ((w.alloc (qK sf name aa a ca)).alloc (qQ))=W at *;have Z:=G.cls.mono (Q:=λ_=>True) Bw λ_ _=>trivial;have a0:=G.heap.heap.mono (Q:=λ_=>True) BB λ_ _=>trivial;obtain⟨ch,rfl,-⟩:=G.heap.form;obtain⟨ac,cc,y,-⟩:=id Z;have V:∀w':qW,Below W.drew.heap.size W.drew w'->Calls Tryz.prog 190 #[qG g m.heap.length ch,VV sf] w' λe w''=>e=.returned (J (Ch m.heap sf))/\qY w' w'':=λw' hb=>xfF m.heap _ sf w' (a0.later BB hb);have H:∀w':qW,Below W.drew.heap.size W.drew w'->Calls Tryz.prog 142 #[WV p.cv (qG g m.heap.length ch) p.ep,J (Ch m.heap sf),qZ name] w' λe w''=>e=.returned (.tuple #[J (BF p.E.cz (Ch m.heap sf) name).1,J (BF p.E.cz (Ch m.heap sf) name).2])/\qY w' w'':=λw' hb=>Mb ⟨p.E.cz,m.heap,p.ep⟩ (Ch m.heap sf) name p.cv _ w' (Z.later Bw hb) (a0.later BB hb)
 have ae:=hid G;rw[y] at H X;clear y Z a0 G;obtain⟨c0,i⟩:∃c0,c0=Ch m.heap sf:=⟨_,rfl⟩;rw[← i] at V H;obtain⟨r1,r2,hr⟩:∃r1 r2,BF p.E.cz c0 name=(r1,r2):=⟨_,_,rfl⟩;rw[hr] at H;have a5:Hid (BL p.E 20 m (BF p.E.cz (Ch m.heap sf) name).1 (BF p.E.cz (Ch m.heap sf) name).2 sf a=BL p.E 20 m r1 r2 sf a):=by show _=_;rw[← i,hr]
 clear i hr;have a2:=X.al;have tokA:True:=trivial
 go_region_held3 (λw'=>w'.cell? (O mb 0)=some (qS ac p.E.cz.length cc)/\w'.cell? (O mb 1)=some (qG g m.heap.length ch)/\w'.cell? (O mb 2)=some (J p.ep)/\w'.cell? (O w.heap.size 0)=some (J sf.k)/\w'.cell? (O w.heap.size 1)=some (J sf.n)/\w'.cell? (O w.heap.size 2)=some (qZ name))
  (first | with_reducible exact a2 | with_reducible exact a9 | with_reducible exact a3)
  (first
   | (have _t:=tokA;go_at_call 190;refine (V _ (Br _ _)).mono ?_;rintro e w3 ⟨rfl,d⟩;have a1:=X.later d;have a9:=a1.al;clear tokA;have tokB:True:=trivial)
   | (have _t:=tokB;go_at_call 142;refine (H _ d).mono ?_;rintro e w4 ⟨rfl,f⟩;have N:=a1.later f;have a3:=N.al;have M:=Bh d f;clear tokB))
 have a7:=ae.out.later M;have a8:=af.fx BZ (.refl _ _) (Kp.of_below (S:=λ_=>False) M) id;have a4:=hC.keep ab (.refl _ _) (Kp.of_below (S:=λ_=>False) M) id id;have U:=xji hC 20 (Bq _) K T1 w4 mb m _ _ _ r1 r2 sf a _ D a7 a4 hI z F a8;have a6:=hid (Kp.of_below (S:=CF K) (T:=T) N.bel);obtain⟨-,m0,m1,m2,C,c1,c2,c3,r0,l,rf,sz⟩:=id N;have H4:=hid N;clear a2 a9 a3 V H a1 N X d f M a7 a8 a4;obtain⟨R,hR⟩:∃R,BL p.E 20 m r1 r2 sf a=R:=⟨_,rfl⟩;rw[hR] at U a5;clear hR;go_wp2_with fail;refine U.mono ?_;rintro e w6 ⟨rfl,⟨T6,j,⟨B,g6,s6,q⟩,u⟩,c⟩;have q0:=c.cell r0 (by rw[t1];unfold CF;omega);have q1:=c.cell l (by rw[t1];unfold CF;omega);have qf:∀o,w6.frozen? (O (w.heap.size+1) o)=false:=λo=>Mw c (by omega) (by rw[t1];unfold CF;omega) (rf o);have t6:T6 (w.heap.size+1)=4:=by rw[j _ (by omega)];exact t1
 have HQ:=hid λu0 u1=>EnPost.fin (r:=R) hC (hX.trans a6.out.size j) (show MacAt p T6 w6 mb R.1 0 B g6 s6 from q) u (a6.out.trans hX c) t6 u0 u1;clear U q u c j m0 m1 m2 C c1 c2 c3 r0 l rf;obtain⟨rm,v,er⟩:=R;go_wp2;rw[a5.out];refine Bt (v:=.tuple #[VV v,J er]) ?_ rfl (HQ.out _ _);simp[results,Tryz.results140,go_sem,q0,q1]
end
abbrev Hh (r:Ran):Value:=.agg #[J r.v.k,J r.v.n,J r.err,J r.sz_]
def WiPost {σ:Type}(L:(Nat->Nat)->World->σ->Nat->Prop)(T0:Nat->Nat)(w:qW)(X:QW)(r:Ran × σ)(e:Ending)(w':qW):Prop:=
 Kp (λt=>t=3) T0 w w'/\∃T',Ext T0 T' w/\L T' w' r.2 0/\∃cv hv,e=.returned (.tuple #[WV cv hv X.ez,Hh r.1])/\BK (λb=>w.heap.size<=b/\T' b≠3) w' cv X.cz/\BP (λb=>w.heap.size<=b/\T' b≠3) w' hv r.1.heap
structure WtR (w:qW)(cv hv:Value)(ep:Int)(s:QV)(name:ByteArray)(av:Value)(w':qW):Prop where
 w0:w'.cell? (O w.heap.size 0)=some cv
 w1:w'.cell? (O w.heap.size 1)=some hv
 w2:w'.cell? (O w.heap.size 2)=some (J ep)
 c0:w'.cell? (O (w.heap.size+1) 0)=some (J s.k)
 c1:w'.cell? (O (w.heap.size+1) 1)=some (J s.n)
 c2:w'.cell? (O (w.heap.size+1) 2)=some (qZ name)
 c3:w'.cell? (O (w.heap.size+1) 3)=some av
 a0:w'.cell? (O (w.heap.size+2) 0)=some (qN)
 a1:w'.cell? (O (w.heap.size+2) 1)=some (qN)
 a2:w'.cell? (O (w.heap.size+2) 2)=some (J 0)
 af:∀o,w'.frozen? (O (w.heap.size+2) o)=false
 b0:w'.cell? (O (w.heap.size+3) 0)=some (J 0)
 b1:w'.cell? (O (w.heap.size+3) 1)=some (J 0)
 b2:w'.cell? (O (w.heap.size+3) 2)=some (J 0)
 b3:w'.cell? (O (w.heap.size+3) 3)=some (J 0)
 bf:∀o,w'.frozen? (O (w.heap.size+3) o)=false
 sz:w.heap.size+4<=w'.heap.size
theorem WtR.kp {w:qW}{cv hv:Value}{ep:Int}{s:QV}{name:ByteArray}{av:Value}{w' w'':qW}{S:Nat->Prop}{T:Nat->Nat}(h:WtR w cv hv ep s name av w')(k:Kp S T w' w'')(a:∀i,i<4->¬ S (T (w.heap.size+i))):WtR w cv hv ep s name av w'':=
 have b:=h.sz
 ⟨k.cell h.w0 (a 0 (by omega)),k.cell h.w1 (a 0 (by omega)),k.cell h.w2 (a 0 (by omega)),k.cell h.c0 (a 1 (by omega)),k.cell h.c1 (a 1 (by omega)),k.cell h.c2 (a 1 (by omega)),k.cell h.c3 (a 1 (by omega)),k.cell h.a0 (a 2 (by omega)),k.cell h.a1 (a 2 (by omega)),k.cell h.a2 (a 2 (by omega)),λo=>Mw k (by omega) (a 2 (by omega)) (h.af o),k.cell h.b0 (a 3 (by omega)),k.cell h.b1 (a 3 (by omega)),k.cell h.b2 (a 3 (by omega)),k.cell h.b3 (a 3 (by omega)),λo=>Mw k (by omega) (a 3 (by omega)) (h.bf o),BX b k.size⟩
theorem WtR.later {w:qW}{cv hv:Value}{ep:Int}{s:QV}{name:ByteArray}{av:Value}{w' w'':qW}(h:WtR w cv hv ep s name av w')(a:qY w' w''):WtR w cv hv ep s name av w'':=h.kp (T:=λ_=>0) (Kp.of_below (S:=λ_=>False) a) λ_ _=>id
theorem xkJ (w:qW)(cv hv:Value)(ep:Int)(s:QV)(name:ByteArray)(av:Value):WtR w cv hv ep s name av ((((w.alloc (qC #[cv,hv,J ep] 26)).alloc (qC #[J s.k,J s.n,qZ name,av] 54)).alloc (qO)).alloc (qC #[J 0,J 0,J 0,J 0] 98)):=by
 obtain⟨-,w0,w1,w2,c0,c1,c2,c3⟩:=xk2 w cv hv ep s name av;have q:=BG ((w.alloc (qC #[cv,hv,J ep] 26)).alloc (qC #[J s.k,J s.n,qZ name,av] 54)) (qO) (qC #[J 0,J 0,J 0,J 0] 98);have e2:((w.alloc (qC #[cv,hv,J ep] 26)).alloc (qC #[J s.k,J s.n,qZ name,av] 54)).heap.size=w.heap.size+2:=by simp
 have e3:(((w.alloc (qC #[cv,hv,J ep] 26)).alloc (qC #[J s.k,J s.n,qZ name,av] 54)).alloc (qO)).heap.size=w.heap.size+3:=by simp
 refine⟨Bf q w0,Bf q w1,Bf q w2,Bf q c0,Bf q c1,Bf q c2,Bf q c3,Bf (Bg _ _) (Bp _ _ _ _ e2 0),Bf (Bg _ _) (Bp _ _ _ _ e2 1),Bf (Bg _ _) (Bp _ _ _ _ e2 2),λo=>((Bg _ _).frozen (p:=(O (w.heap.size+2) o)) (by rw[e3];simp)).trans (BN (cur:=#[qN,qN,J 0]) (t:=26) (Dh _ _ _ e2) o),Bp _ _ _ _ e3 0,Bp _ _ _ _ e3 1,Bp _ _ _ _ e3 2,Bp _ _ _ _ e3 3,BN (cur:=#[J 0,J 0,J 0,J 0]) (t:=98) (Dh _ _ _ e3),by simp⟩
end Go.Proofs.YtbafokihegegiaaGreatDoor
