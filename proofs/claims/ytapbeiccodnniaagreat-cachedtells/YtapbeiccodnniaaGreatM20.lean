/- A part. -/
import Derived.Test.YtapbeiccodnniaaGreatM19
namespace Go.Proofs.YtapbeiccodnniaaGreat
open Go.ChangeShapes Go.WideShapes Go.ChangeAt Go.RowKit
set_option linter.unusedSimpArgs false
set_option linter.unusedVariables false
set_option maxHeartbeats 8000000
set_option maxRecDepth 8000
section
variable {σ:Type}
variable {p:Mp σ} {L:(Nat->Nat)->World->σ->Nat->Prop} {LF QF:Nat} {lc qc:Array Value} {T T':Nat->Nat} {w w':World} {mb:Nat} {m m':Mc σ} {hv:Value} {g:Nat} {s:Nat->Nat} {K fb:Nat} {f:Fr} {cv av tv sv kv:Value}
structure FnR (p:Mp σ)(L:(Nat->Nat)->World->σ->Nat->Prop)(d:Nat)(T:Nat->Nat)(w:World)(mb K fb:Nat)(R:Mc σ × QV × Int)(gk:Nat)(T1:Nat->Nat)(m:Mc σ)(f:Fr)(wr:World):Prop where
 ext:Ext T T1 w
 kp:Kp (All K) T w wr
 mac:∃ hv g s,MacAt p T1 wr mb m (20-(d:Int)) hv g s
 fr:∃ cv av tv sv kv,FrAt T1 K wr fb f cv av tv sv kv
 lk:L T1 wr m.st (xc7 p.E m)
 min:MIn p.E m
 fo:FOk p.E.cz m.heap.length f
 gd:xmK f
 room:f.stack.length+muE m f<=1000000
 mu:muE m f<=gk
 val:xcL (xa1 p.E d) p.E d gk m f=R
 r0:wr.cell? ⟨w.heap.size,0,none⟩=some (.int .i64 0)
 r1:wr.cell? ⟨w.heap.size,1,none⟩=some (.int .i64 0)
 rf:∀ o,wr.frozen? ⟨w.heap.size,o,none⟩=false
 r4:T1 w.heap.size=4
 sz:w.heap.size<wr.heap.size
theorem xb6 {S:Nat->Prop}{b o:Nat}(k:Kp S T w w')(hb:b<w.heap.size)(hs:¬ S (T b))(h:w.frozen? ⟨b,o,none⟩=false):w'.frozen? ⟨b,o,none⟩=false:=by
 unfold World.frozen? at h ⊢;simp only at h ⊢;rw[k.blk b hb hs];exact h
theorem FnR.ended (hC:Cx p L LF lc QF qc){d gk:Nat}{T1:Nat->Nat}{wr:World}{R:Mc σ × QV × Int}(h:FnR p L d T w mb K fb R gk T1 m f wr)(u0 u1:Value):EnPost p L T w mb (20-(d:Int)) K (m,xaU,9) (.returned (.tuple #[VV xaU,.int .i64 9])) ((wr.setCell ⟨w.heap.size,0,none⟩ u0).setCell ⟨w.heap.size,1,none⟩ u1).drew:=by
 obtain⟨hv,g,s,hM⟩:=h.mac;have k:Kp (fun t=>t=4) T1 wr ((wr.setCell ⟨w.heap.size,0,none⟩ u0).setCell ⟨w.heap.size,1,none⟩ u1).drew:=(((Kp.refl (fun t=>t=4) _ _).set (fun _=>h.r4) _ _).set (fun _=>h.r4) _ _).drew
 refine⟨rfl,⟨T1,h.ext,⟨_,_,_,hM.keep (.refl _ _) k (by omega) (by omega) (by omega)⟩,?_⟩,((h.kp.set (fun h=>absurd h (Nat.lt_irrefl _)) _ _).set (fun h=>absurd h (Nat.lt_irrefl _)) _ _).drew⟩
 rw[if_neg (by simp)]
 exact hC.mono (hC.keep h.lk (.refl _ _) k (by omega) (by omega)) (Nat.zero_le _)
theorem xjh (hC:Cx p L LF lc QF qc){d:Nat}(hd:d<=20)(hEn:xek p L d)(h:MacAt p T w mb m (20-(d:Int)) hv g s)(hF:FrAt T K w fb f cv av tv sv kv)(hL:L T w m.st (xc7 p.E m))(hI:MIn p.E m)(hFo:FOk p.E.cz m.heap.length f)(hGd:xmK f)(hRm:f.stack.length+muE m f<=1000000) :
  Calls Tryz.prog 81 #[.pointer (some ⟨mb,0,none⟩),.pointer (some ⟨fb,0,none⟩)] w fun e w'=>EnPost p L T w mb (20-(d:Int)) K (xcL (xa1 p.E d) p.E d (xeQ f) m f) e w':=by
 have hp:=hF.pos;have hb1:=xaj w (.cells #[.int .i64 0,.int .i64 0] 27)
 have hRel:FnR p L d T w mb K fb (xcL (xa1 p.E d) p.E d (xeQ f) m f) (xeQ f) (xau T w 4) m f (w.alloc (.cells #[.int .i64 0,.int .i64 0] 27)):=
  ⟨xao T w 4,Kp.of_below hb1,⟨_,_,_,(h.tagged0 4).later hb1⟩,⟨_,_,_,_,_,(hF.tagged0 4).later hb1⟩,hC.keep (hC.keep hL (xao T w 4) (Kp.refl (fun _=>False) _ _) id id) (.refl _ _) (Kp.of_below (S:=fun _=>False) hb1) id id,hI,hFo,hGd,hRm,xkZ hI.turns.1,rfl,xaa _ _ _ _ rfl 0,xaa _ _ _ _ rfl 1,xam (qzJ w (.cells #[.int .i64 0,.int .i64 0] 27)),xav (qzC _),by simp⟩
 clear h hF hL hb1 hFo hGd hRm hI;generalize xcL (xa1 p.E d) p.E d (xeQ f) m f=R at *;generalize xeQ f=G at *;go_enter Tryz.func81,Tryz.ntmps81;go_wp2
 go_loopg [] G (fun gk wr=>∃ T1 m f,FnR p L d T w mb K fb R gk T1 m f wr)
 case atStart=>exact⟨_,_,_,hRel⟩
 case round=>
  clear hRel;obtain⟨T1,m,f,hR⟩:=hrel;obtain⟨hv,g,s,hM⟩:=hR.mac;obtain⟨cv,av,tv,sv,kv,hFr⟩:=hR.fr;have hmu:=hR.mu
  by_cases hin:f.pc<0\/f.code.length<=f.pc.toNat
  ·have HV:Hid (R=(m,xaU,9)):=by
    show _=_
    rw[← hR.val]
    cases gk with
    | zero=>rfl
    | succ G'=>
     unfold xcL
     rcases hin with hn | hn
     ·rw[if_pos hn]
     ·have:(if f.pc<0 then none else f.code[f.pc.toNat]?)=none:=by
       split
       ·rfl
       ·exact List.getElem?_eq_none hn
      rw[this]
   have hc12:wr.cell? ⟨fb,12,none⟩=some (.int .i64 f.pc):=by rw[qzB hFr.box];rfl
   have hc11:wr.cell? ⟨fb,11,none⟩=some kv:=by rw[qzB hFr.box];rfl
   obtain⟨ac,cc,hkv,hcl,hcc,-,hrow⟩:=hFr.code;rw[hkv] at hc11;have q0:=hR.r0;have q1:=hR.r1;have qf:=hR.rf;have HR:=hid hR;have HM:=hid hM;clear hR hM hFr hmu hrow hkv
   by_cases hn:f.pc<0
   ·have hn':decide (0<=f.pc)=false:=by simpa using hn
    have hn2:¬ 0<=f.pc:=by omega
    clear hin hn;go_wp2
    go_region
    go_wp2;rw[HV.out];refine qzK (v:=.tuple #[VV xaU,.int .i64 9]) ?_ rfl (HR.out.ended hC _ _)
    simp[results,Tryz.results81,go_sem,q0,q1]
   ·have hn':decide (0<=f.pc)=true:=by simpa using hn
    have hn2:0<=f.pc:=by omega
    have hge:¬ f.pc<(f.code.length:Int):=by omega
    have hge':decide (f.pc<(f.code.length:Int))=false:=by simpa using hge
    clear hin hn;go_wp2
    go_region
    go_wp2;rw[HV.out];refine qzK (v:=.tuple #[VV xaU,.int .i64 9]) ?_ rfl (HR.out.ended hC _ _)
    simp[results,Tryz.results81,go_sem,q0,q1]
  obtain⟨k,hpc⟩:∃ k:Nat,f.pc=(k:Int):=⟨f.pc.toNat,by omega⟩
  have hkl:k<f.code.length:=by rw[hpc] at hin;simp at hin;omega
  obtain⟨x,hxh⟩:∃ x,f.code[k]?=some x:=⟨_,List.getElem?_eq_getElem hkl⟩;clear hin
  obtain⟨G',hG⟩:∃ G',gk=G'+1:=⟨gk-1,by
   have:0<muE m f:=by unfold muE;rw[hpc];simp;omega
   omega⟩
  have HV:Hid (R=if x.op=17 then (m,f.top,0) else if (xan (xa1 p.E d) p.E d m { f with pc:=f.pc+1 } f.pc x).2.2≠0 then ((xan (xa1 p.E d) p.E d m { f with pc:=f.pc+1 } f.pc x).1,xaU,(xan (xa1 p.E d) p.E d m { f with pc:=f.pc+1 } f.pc x).2.2) else xcL (xa1 p.E d) p.E d G' (xan (xa1 p.E d) p.E d m { f with pc:=f.pc+1 } f.pc x).1 (xan (xa1 p.E d) p.E d m { f with pc:=f.pc+1 } f.pc x).2.1):=by
   show _=_
   rw[← hR.val,hG]
   conv=>lhs;unfold xcL
   rw[hpc,if_neg (by omega)]
   simp only[Int.toNat_natCast,hxh]
  have hc12:wr.cell? ⟨fb,12,none⟩=some (.int .i64 (k:Int)):=by rw[qzB hFr.box,← hpc];rfl
  have hc11:wr.cell? ⟨fb,11,none⟩=some kv:=by rw[qzB hFr.box];rfl
  have hcf:=xam hFr.box;obtain⟨ac,cc,hkv,hcl,hcc,-,hrow⟩:=hFr.code;rw[hkv] at hc11;unfold maxLen at hcc;obtain⟨bc,oc,hac,-,i0,i1,i2,i3,i4,-⟩:=hrow k x hxh;rw[hac] at hc11;simp only[Nat.add_zero] at i0;have hk0:(0:Int)<=(k:Int):=by omega
  have hk1:(k:Int)<(f.code.length:Int):=by omega
  have hkw:IntKind.i64.wrap ((k:Int)+1)=(k:Int)+1:=xaE (by omega) (by omega)
  have hlf:fb<wr.heap.size:=xaf hFr.box;have hnf:¬ fb=wr.heap.size:=by omega
  have hnf':¬ wr.heap.size=fb:=by omega
  have HX:=hid hxh;have HR:=hid hR;have HM:=hid hM;have HF:=hid hFr;have HPC:=hid hpc;have HGK:=hid hG;clear hxh hR hM hFr hpc hmu hrow hkv hac hG;rw[HPC.out] at HV;go_wp2
  go_region
  by_cases h17:x.op=17
  ·have h17':(x.op == 17)=true:=by simpa using h17
   rw[if_pos h17] at HV;clear h17;have hbV:Below wr.heap.size wr (wr.alloc (.cells #[.int .i64 x.op,.int .i64 x.a,.int .i64 x.b,.int .i64 x.c,.string x.name] 76)).drew:=(xaj _ _).drew;have hF1:=HF.out.later hbV;go_wp2_with fail;refine (xdD hF1).mono ?_;rintro e w2 ⟨rfl,-,hK2⟩;have hrs:=HR.out.sz;have hz:w.heap.size<(wr.alloc (.cells #[.int .i64 x.op,.int .i64 x.a,.int .i64 x.b,.int .i64 x.c,.string x.name] 76)).drew.heap.size:=qzE hrs hbV.size;have q0:=hK2.cell (qzA hbV HR.out.r0) (by rw[HR.out.r4];omega)
   have q1:=hK2.cell (qzA hbV HR.out.r1) (by rw[HR.out.r4];omega)
   have qf:∀ o,w2.frozen? ⟨w.heap.size,o,none⟩=false:=fun o=>xb6 hK2 hz (by rw[HR.out.r4];omega) ((hbV.frozen (p:=⟨w.heap.size,o,none⟩) hrs).trans (HR.out.rf o))
   have HM2:=hid ((HM.out.later hbV).keep (.refl _ _) hK2 (by omega) (by omega) (by omega))
   have HL2:=hid (hC.keep (hC.keep HR.out.lk (.refl _ _) (Kp.of_below (S:=fun _=>False) hbV) id id) (.refl _ _) hK2 (by omega) (by omega))
   have HK2:=hid ((HR.out.kp.on hbV).trans HR.out.ext (hK2.mono (S':=All K) fun t h=>by unfold All;omega))
   clear hF1 hK2 hbV hc12 hc11 hcf i0 i1 i2 i3 i4;go_wp2;rw[HV.out];refine qzK (v:=.tuple #[VV f.top,.int .i64 0]) ?_ rfl ⟨rfl,⟨T1,HR.out.ext,⟨_,_,_,HM2.out.keep (.refl _ _) (((Kp.refl (fun t=>t=4) _ _).set (fun _=>HR.out.r4) _ _).set (fun _=>HR.out.r4) _ _) (by omega) (by omega) (by omega)⟩,?_⟩,(HK2.out.set (fun h=>absurd h (Nat.lt_irrefl _)) _ _).set (fun h=>absurd h (Nat.lt_irrefl _)) _ _⟩
   ·simp[results,Tryz.results81,go_sem,q0,q1]
   ·rw[if_pos rfl]
    exact hC.keep HL2.out (.refl _ _) (((Kp.refl (fun t=>t=4) _ _).set (fun _=>HR.out.r4) _ _).set (fun _=>HR.out.r4) _ _) (by omega) (by omega)
  ·have h17':(x.op == 17)=false:=by simpa using h17
   rw[if_neg h17] at HV;have H17:=hid h17;clear h17;have hk2:Kp (fun t=>t=K) T1 wr (wr.setCell ⟨fb,12,none⟩ (.int .i64 ((k:Int)+1))):=(Kp.refl _ _ _).set (fun _=>HF.out.tag) _ _
   have hbV:Below (wr.setCell ⟨fb,12,none⟩ (.int .i64 ((k:Int)+1))).heap.size (wr.setCell ⟨fb,12,none⟩ (.int .i64 ((k:Int)+1))) ((wr.setCell ⟨fb,12,none⟩ (.int .i64 ((k:Int)+1))).alloc (.cells #[.int .i64 x.op,.int .i64 x.a,.int .i64 x.b,.int .i64 x.c,.string x.name] 76)).drew:=(xaj _ _).drew;have hz0:(wr.setCell ⟨fb,12,none⟩ (.int .i64 ((k:Int)+1))).heap.size=wr.heap.size:=by simp
   have hkV:Kp (fun t=>t=K) T1 wr ((wr.setCell ⟨fb,12,none⟩ (.int .i64 ((k:Int)+1))).alloc (.cells #[.int .i64 x.op,.int .i64 x.a,.int .i64 x.b,.int .i64 x.c,.string x.name] 76)).drew:=hk2.on hbV
   have hF1:=(HF.out.pcAt hk2 ((k:Int)+1) (xgr HF.out.box _)).later hbV;have hM1:=HM.out.keep (.refl _ _) hkV (by omega) (by omega) (by omega)
   have hL1:=hC.keep HR.out.lk (.refl _ _) hkV (by omega) (by omega)
   have hFo1:FOk p.E.cz m.heap.length { f with pc:=(k:Int)+1 }:=⟨HR.out.fo.self,HR.out.fo.args,HR.out.fo.temps,HR.out.fo.stack,HR.out.fo.code,HR.out.fo.plain⟩
   have hstep:=xlN hC hEn hM1 hF1 hL1 HR.out.min hFo1 (by have:=HR.out.room;show f.stack.length<=_;omega) hd (k:Int) x (fun hf h18=>HR.out.gd hf x (List.mem_of_getElem? HX.out) h18)
   have hmem:x∈f.code:=List.mem_of_getElem? HX.out;have hcod:=HR.out.fo.code x hmem;have P1:=hid (xgl hC.ok (xhl hC.ok d) d HR.out.min.heap hFo1 (k:Int) hcod.1 hcod.2);have P2:=hid (xh5 (xlf p.E d) d HR.out.min.sz_.2 { f with pc:=(k:Int)+1 } (k:Int) x)
   have P3:=hid (xei (xcU p.E d) p.E d m { f with pc:=(k:Int)+1 } (k:Int) x)
   have P4:Hid ((xan (xa1 p.E d) p.E d m { f with pc:=(k:Int)+1 } (k:Int) x).2.2=0->(xan (xa1 p.E d) p.E d m { f with pc:=(k:Int)+1 } (k:Int) x).1.turns<=300):=fun h0=>xkU (xob p.E d) d HR.out.min.turns.2 (f:={ f with pc:=(k:Int)+1 }) h0
   have P5:Hid (xmK (xan (xa1 p.E d) p.E d m { f with pc:=(k:Int)+1 } (k:Int) x).2.1):=xnW (f:={ f with pc:=(k:Int)+1 }) HR.out.gd (k:Int) x
   have P7:Hid ((xan (xa1 p.E d) p.E d m { f with pc:=(k:Int)+1 } (k:Int) x).2.2=0->(xan (xa1 p.E d) p.E d m { f with pc:=(k:Int)+1 } (k:Int) x).2.1.stack.length+muE (xan (xa1 p.E d) p.E d m { f with pc:=(k:Int)+1 } (k:Int) x).1 (xan (xa1 p.E d) p.E d m { f with pc:=(k:Int)+1 } (k:Int) x).2.1<=1000000):=fun h0=>by
    have:=xkV (xcU p.E d) (E:=p.E) (d:=d) (x:=x) HR.out.min.turns.1 (f:=f) (by rw[HPC.out];omega) (by rw[HPC.out];simpa using hkl) (by rw[HPC.out];exact h0) HR.out.room
    rw[HPC.out] at this
    exact this
   have P6:Hid ((xan (xa1 p.E d) p.E d m { f with pc:=(k:Int)+1 } (k:Int) x).2.2=0->muE (xan (xa1 p.E d) p.E d m { f with pc:=(k:Int)+1 } (k:Int) x).1 (xan (xa1 p.E d) p.E d m { f with pc:=(k:Int)+1 } (k:Int) x).2.1<muE m f):=fun h0=>by
    have:=xhK (xcU p.E d) (E:=p.E) (d:=d) (x:=x) HR.out.min.turns.1 (f:=f) (by rw[HPC.out];omega) (by rw[HPC.out];simpa using hkl) (by rw[HPC.out];exact h0)
    rw[HPC.out] at this
    exact this
   clear hF1 hM1 hL1 hFo1 hcod;generalize xan (xa1 p.E d) p.E d m { f with pc:=(k:Int)+1 } (k:Int) x=r at *
   go_wp2_with fail;refine hstep.mono ?_;rintro e w3 ⟨rfl,⟨T3,hX3,⟨hv3,g3,s3,hM3⟩,hL3,hF3⟩,hK3⟩;have hrs:=HR.out.sz;have hz1:w.heap.size<((wr.setCell ⟨fb,12,none⟩ (.int .i64 ((k:Int)+1))).alloc (.cells #[.int .i64 x.op,.int .i64 x.a,.int .i64 x.b,.int .i64 x.c,.string x.name] 76)).drew.heap.size:=qzE hrs hkV.size;have q0:=hK3.cell (hkV.cell HR.out.r0 (by rw[HR.out.r4];omega)) (by rw[HR.out.r4];unfold All;omega)
   have q1:=hK3.cell (hkV.cell HR.out.r1 (by rw[HR.out.r4];omega)) (by rw[HR.out.r4];unfold All;omega)
   have qf:∀ o,w3.frozen? ⟨w.heap.size,o,none⟩=false:=fun o=>xb6 hK3 hz1 (by rw[HR.out.r4];unfold All;omega) (xb6 hkV hrs (by rw[HR.out.r4];omega) (HR.out.rf o))
   have HE3:=hid (HR.out.ext.trans HR.out.kp.size (fun b hb=>hX3 b (qzE hb hkV.size)))
   have HK3:=hid ((HR.out.kp.trans HR.out.ext (hkV.mono (S':=All K) fun t h=>by unfold All;omega)).trans HR.out.ext hK3)
   have HT3:Hid (T3 w.heap.size=4):=by show _=_;rw[hX3 _ hz1];exact HR.out.r4
   have HZ3:Hid (w.heap.size<w3.heap.size):=qzE hz1 hK3.size;have HM3:=hid hM3;have HL3:=hid hL3;have HF3:=hid hF3;clear hstep hX3 hM3 hL3 hF3 hK3 hc12 hc11 hcf i0 i1 i2 i3 i4 hk2 hbV hkV hz1
   by_cases he:r.2.2=0
   ·have he':(r.2.2 != 0)=false:=by simpa using he
    have HE0:=hid he;rw[if_neg (by simpa using he)] at HV
    go_wp2
    go_roundg G'
    case measure=>have:=HGK.out;omega
    case rel=>
     have hL4:=HL3.out;rw[if_pos HE0.out] at hL4;have hst:=P1.out;refine⟨T3,r.1,r.2.1,HE3.out,HK3.out,⟨_,_,_,HM3.out⟩,HF3.out HE0.out,hL4,⟨hst.1.heap,⟨by have:=P2.out;have:=HR.out.min.sz_;omega,P2.out.1⟩,⟨by have:=P3.out;have:=HR.out.min.turns;omega,P4.out HE0.out⟩⟩,hst.2 HE0.out,P5.out,P7.out HE0.out,?_,HV.out.symm,q0,q1,qf,HT3.out,HZ3.out⟩
     have h1:=P6.out HE0.out;have h2:=HR.out.mu;have h3:=HGK.out
     omega
   ·have he':(r.2.2 != 0)=true:=by simpa using he
    have HE0:=hid he;rw[if_pos he] at HV;clear he;go_wp2;rw[HV.out];refine qzK (v:=.tuple #[VV xaU,.int .i64 r.2.2]) ?_ rfl ⟨rfl,⟨T3,HE3.out,⟨_,_,_,HM3.out.keep (.refl _ _) (((Kp.refl (fun t=>t=4) _ _).set (fun _=>HT3.out) _ _).set (fun _=>HT3.out) _ _) (by omega) (by omega) (by omega)⟩,?_⟩,(HK3.out.set (fun h=>absurd h (Nat.lt_irrefl _)) _ _).set (fun h=>absurd h (Nat.lt_irrefl _)) _ _⟩
    ·simp[results,Tryz.results81,go_sem,q0,q1]
    ·have hL4:=HL3.out;rw[if_neg HE0.out] at hL4 ⊢
     exact hC.keep hL4 (.refl _ _) (((Kp.refl (fun t=>t=4) _ _).set (fun _=>HT3.out) _ _).set (fun _=>HT3.out) _ _) (by omega) (by omega)
end
section
variable {σ:Type}
variable {p:Mp σ} {L:(Nat->Nat)->World->σ->Nat->Prop} {LF QF:Nat} {lc qc:Array Value} {T T':Nat->Nat} {w w':World} {mb:Nat} {m m':Mc σ} {hv:Value} {g:Nat} {s:Nat->Nat} {K fb:Nat} {f:Fr} {cv av tv sv kv:Value}
theorem xmv (c n:Int)(w:World):Calls Tryz.prog 24 #[.int .i64 c,.int .i64 n] w fun e w'=>e=.returned (.tuple #[FaV 0 ⟨#[]⟩ 0 0 (.slice none 0 0),.bool false])/\Below w.heap.size w w':=by
 go_enter Tryz.func24,Tryz.ntmps24;go_wp2;refine qzK (v:=.tuple #[FaV 0 ⟨#[]⟩ 0 0 (.slice none 0 0),.bool false]) ?_ rfl ⟨rfl,xaj _ _⟩
 simp[results,Tryz.results24,go_sem]
structure EnR (w:World)(sf:QV)(w':World):Prop where
 s0:w'.cell? ⟨w.heap.size,0,none⟩=some (.int .i64 sf.k)
 s1:w'.cell? ⟨w.heap.size,1,none⟩=some (.int .i64 sf.n)
 r0:w'.cell? ⟨w.heap.size+1,0,none⟩=some (.int .i64 0)
 r1:w'.cell? ⟨w.heap.size+1,1,none⟩=some (.int .i64 0)
 rf:∀ o,w'.frozen? ⟨w.heap.size+1,o,none⟩=false
 sz:w.heap.size+2<=w'.heap.size
theorem EnR.kp {w:World}{self:QV}{w' w'':World}{S:Nat->Prop}{T:Nat->Nat}(h:EnR w self w')(k:Kp S T w' w'')(h1:¬ S (T w.heap.size))(h2:¬ S (T (w.heap.size+1))):EnR w self w'':=
 ⟨k.cell h.s0 h1,k.cell h.s1 h1,k.cell h.r0 h2,k.cell h.r1 h2,fun o=>xb6 k (by have:=h.sz;omega) h2 (h.rf o),qzD h.sz k.size⟩
theorem xhM (w:World)(self:QV):EnR w self ((w.alloc (.cells #[.int .i64 self.k,.int .i64 self.n] 27)).alloc (.cells #[.int .i64 0,.int .i64 0] 27)):=by
 obtain⟨a0,a1,r0,r1,rf,sz⟩:=xkp w self
 exact⟨a0,a1,r0,r1,rf,sz⟩
theorem EnPost.fin {calls:Int}{T1:Nat->Nat}{U:World}{r:Mc σ × QV × Int}(hC:Cx p L LF lc QF qc)(hE:Ext T T1 w)(hM:MacAt p T1 U mb r.1 calls hv g s)(hL:L T1 U r.1.st (if r.2.2=0 then xc7 p.E r.1 else 0))(hK:Kp (All K) T w U)(h4:T1 (w.heap.size+1)=4)(u0 u1:Value):EnPost p L T w mb calls K r (.returned (.tuple #[VV r.2.1,.int .i64 r.2.2])) ((U.setCell ⟨w.heap.size+1,0,none⟩ u0).setCell ⟨w.heap.size+1,1,none⟩ u1):=by
 have k:Kp (fun t=>t=4) T1 U ((U.setCell ⟨w.heap.size+1,0,none⟩ u0).setCell ⟨w.heap.size+1,1,none⟩ u1):=((Kp.refl (fun t=>t=4) _ _).set (fun _=>h4) _ _).set (fun _=>h4) _ _
 exact⟨rfl,⟨T1,hE,⟨_,_,_,hM.keep (.refl _ _) k (by omega) (by omega) (by omega)⟩,hC.keep hL (.refl _ _) k (by omega) (by omega)⟩,(hK.set (fun h=>absurd h (by omega)) _ _).set (fun h=>absurd h (by omega)) _ _⟩
def xie (E:Env σ):Nat->Mc σ->Fr->Mc σ × QV × Int
 | 0=>fun m _=>(m,xaU,14)
 | d+1=>fun m f=>xcL (xa1 E d) E d (xeQ f) m f
theorem xlq (E:Env σ)(d:Nat):xa1 E d=xbj E d (xie E d):=by cases d<;>rfl
theorem FrNew.later (h:FrNew T K w fb f cv av)(hb:Below w.heap.size w w'):FrNew T K w' fb f cv av:=⟨xac h.box hb,h.tag,h.args.fx xaK (.refl _ _) (Kp.of_below (S:=fun _=>False) hb) id,h.meth.fx xbl (.refl _ _) (Kp.of_below (S:=fun _=>False) hb) id,h.pos,h.stack⟩
theorem xkc {c k:Int}{mt:QM}{self:QV}{args:List QV}(h:FrNew T K w fb ⟨c,mt,self,args,[],[],[],0,false⟩ cv av)(E:Env σ)(fc:Int)(fn:ByteArray)(fe ft:Int)(kq:Value)(hq:∀ q,E.quick c k=some q->ft=q.2/\xa5 (Fx T w) w kq q.1):Calls Tryz.prog 80 #[.pointer (some ⟨fb,0,none⟩),FaV fc fn fe ft kq,.bool (E.quick c k).isSome] w fun e w'=>e=.returned (.tuple #[])/\∃ T' tv sv kv,Ext T T' w/\FrAt T' K w' fb (xaG E c k mt self args) cv av tv sv kv/\Kp (fun t=>t=K) T w w':=by
 unfold xaG
 cases hk:E.quick c k with
 | none=>exact xil h rfl kq fc fn fe ft
 | some q=>
  obtain⟨rfl,hc⟩:=hq q hk
  exact xjI h kq fc fn fe q.2 q.1 hc
theorem xlU (E:Env σ)(c k:Int)(mt:QM)(self:QV)(args:List QV):(xaG E c k mt self args).cls=c/\(xaG E c k mt self args).meth=mt/\(xaG E c k mt self args).self=self/\(xaG E c k mt self args).args=args/\(xaG E c k mt self args).stack=[]:=by
 unfold xaG
 split<;>exact⟨rfl,rfl,rfl,rfl,rfl⟩
theorem xmw (hC:Cx p L LF lc QF qc){h:Int}{c k:Int}{mt:QM}(hm:xaO p.E.cz c k=some mt){self:QV}{args:List QV}(hs:xas h self=0)(ha:VsOk h args):FOk p.E.cz h (xaG p.E c k mt self args)/\xmK (xaG p.E c k mt self args)/\xeQ (xaG p.E c k mt self args)<=1000000:=by
 obtain⟨f1,f2⟩:=hC.few c k mt hm;unfold xaG
 cases hk:p.E.quick c k with
 | none=>exact⟨⟨hs,ha,xc8 _ _,(fun v hv=>by cases hv),hC.ok.meths _ _ _ hm,hC.ok.meths _ _ _ hm⟩,(fun h=>by cases h),by unfold xeQ;simp only;omega⟩
 | some q=>
  obtain⟨g1,g2⟩:=f2 q hk
  exact⟨⟨hs,ha,xc8 _ _,(fun v hv=>by cases hv),hC.ok.fast _ _ _ hk,hC.ok.meths _ _ _ hm⟩,fun _=>g2,by unfold xeQ;simp only;omega⟩
theorem xgK (hC:Cx p L LF lc QF qc)(d:Nat)(hd:d<=20)(hIh:∀ d',d=d'+1->xek p L d'):xek p L d:=by
 intro K T w mb m hv g s c n self args av hK5 h hL hI hSe hAr hA;have hX:=xao T w 4;have hT4:∀ b,w.heap.size<=b->xau T w 4 b=4:=fun b hb=>xav hb
 have hb1:=xca w (.cells #[.int .i64 self.k,.int .i64 self.n] 27) (.cells #[.int .i64 0,.int .i64 0] 27);have hM0:=(h.tagged0 4).later hb1;have hA0:=(xdR hA xaK 4).fx xaK (.refl _ w) (Kp.of_below (S:=fun _=>False) hb1) id
 have hL0:=hC.keep (hC.keep hL hX (Kp.refl (fun _=>False) _ _) id id) (.refl _ _) (Kp.of_below (S:=fun _=>False) hb1) id id
 have hR0:=xhM w self;have HKW:Hid (Kp (All K) T w ((w.alloc (.cells #[.int .i64 self.k,.int .i64 self.n] 27)).alloc (.cells #[.int .i64 0,.int .i64 0] 27))):=Kp.of_below hb1;obtain⟨aa,ca,rfl,-⟩:=id hA;have hlm:=xaf h.box;clear h hA hL;generalize xau T w 4=T1 at *;have t0:T1 w.heap.size=4:=hT4 _ (qzC _);have t1:T1 (w.heap.size+1)=4:=hT4 _ (by omega)
 go_enter Tryz.func61,Tryz.ntmps61
 go_upto_region 1 with (fail)
 generalize ((w.alloc (.cells #[.int .i64 self.k,.int .i64 self.n] 27)).alloc (.cells #[.int .i64 0,.int .i64 0] 27))=W at *;have hhas:=xmm hM0 c n;have HEN:Hid (xa1 p.E d m c n self args=xbj p.E d (xie p.E d) m c n self args):=by show _=_;rw[xlq]
 go_wp2_with fail;refine hhas.mono ?_;rintro e w1 ⟨rfl,hbw⟩;have hM1:=hM0.later hbw;have hA1:=hA0.fx xaK (.refl _ _) (Kp.of_below (S:=fun _=>False) hbw) id
 have hL1:=hC.keep hL0 (.refl _ _) (Kp.of_below (S:=fun _=>False) hbw) id id
 have hR1:=hR0.kp (T:=T1) (S:=fun _=>False) (Kp.of_below hbw) id id
 have HK1:=hid (HKW.out.on hbw);clear hhas hM0 hA0 hL0 hR0 hbw hb1;obtain⟨s0,s1,r0,r1,rf,sz⟩:=id hR1
 cases hma:xaO p.E.cz c n with
 | none=>
  have HE:Hid (xa1 p.E d m c n self args=(m,xaU,10)):=by show _=_;rw[HEN.out];unfold xbj;rw[hma]
  clear hma HEN;have Q:=fun u0 u1=>EnPost.fin (r:=(m,xaU,10)) hC hX hM1 (by rw[if_neg (by simp)];exact hC.mono hL1 (Nat.zero_le _)) HK1.out t1 u0 u1
  have HQ:=hid Q;clear Q hM1 hL1 hA1 hR1;go_wp2;rw[HE.out];refine qzK (v:=.tuple #[VV xaU,.int .i64 10]) ?_ rfl (HQ.out _ _)
  simp[results,Tryz.results61,go_sem,r0,r1]
 | some mt=>
  obtain⟨kc,kn,xc,rfl,rfl,hxc,hxm⟩:=xej hma;obtain⟨ac,cc,hcv,hcl,hcc,-,hrow⟩:=hM1.cls;obtain⟨bc,oc,hac,-,e0,e1,e2,e3,mv,e4,hmv⟩:=hrow kc xc hxc;obtain⟨am,cm,rfl,hml,hcm,-,hrowm⟩:=hmv;obtain⟨bm,om,rfl,hbm,f0,f1,f2,f3,f4,cv,f5,hcode⟩:=hrowm kn mt hxm;obtain⟨ak,ck,rfl,-⟩:=id hcode;have m0:=hM1.c0;rw[hcv,hac] at m0;simp only[Nat.add_zero] at e0 f0;unfold maxLen at hcc hcm;have l1:=xae hxc;have l2:=xae hxm;have c1:(kc:Int)<(p.E.cz.length:Int):=by omega
  have c2:(kn:Int)<(xc.mz.length:Int):=by omega
  have c3:(0:Int)<=(kc:Int):=by omega
  have c4:(0:Int)<=(kn:Int):=by omega
  clear hrow hrowm hcv hac hxc hxm;have hbV:=xaj w1 (.cells #[.string mt.name,.int .i64 mt.args,.int .i64 mt.temps,.int .i64 mt.prim,.slice ak mt.code.length ck] 59);have hM2:=hM1.later hbV;have hA2:=hA1.fx xaK (.refl _ _) (Kp.of_below (S:=fun _=>False) hbV) id
  have hCo2:=hcode.fx xbl (.refl _ _) (Kp.of_below (S:=fun _=>False) hbV) id
  have hL2:=hC.keep hL1 (.refl _ _) (Kp.of_below (S:=fun _=>False) hbV) id id
  have hR2:=hR1.kp (T:=T1) (S:=fun _=>False) (Kp.of_below hbV) id id
  have b0:=xaa w1 #[.string mt.name,.int .i64 mt.args,.int .i64 mt.temps,.int .i64 mt.prim,.slice ak mt.code.length ck] 59 _ rfl 0;have b1:=xaa w1 #[.string mt.name,.int .i64 mt.args,.int .i64 mt.temps,.int .i64 mt.prim,.slice ak mt.code.length ck] 59 _ rfl 1;have b2:=xaa w1 #[.string mt.name,.int .i64 mt.args,.int .i64 mt.temps,.int .i64 mt.prim,.slice ak mt.code.length ck] 59 _ rfl 2;have b3:=xaa w1 #[.string mt.name,.int .i64 mt.args,.int .i64 mt.temps,.int .i64 mt.prim,.slice ak mt.code.length ck] 59 _ rfl 3;have b4:=xaa w1 #[.string mt.name,.int .i64 mt.args,.int .i64 mt.temps,.int .i64 mt.prim,.slice ak mt.code.length ck] 59 _ rfl 4
  have HK2:=hid (HK1.out.on hbV);have tm:T1 w1.heap.size=4:=hT4 _ (by omega)
  have hMz:w1.heap.size<(w1.alloc (.cells #[.string mt.name,.int .i64 mt.args,.int .i64 mt.temps,.int .i64 mt.prim,.slice ak mt.code.length ck] 59)).heap.size:=by simp
  go_upto_region 4 with (fail)
  clear hM1 hA1 hL1 hR1 s0 s1 r0 r1 rf sz e0 e1 e2 e3 e4 f0 f1 f2 f3 f4 f5 m0 hcode hbV HK1;generalize (w1.alloc (.cells #[.string mt.name,.int .i64 mt.args,.int .i64 mt.temps,.int .i64 mt.prim,.slice ak mt.code.length ck] 59))=V at *;simp only[List.getElem?_toArray,List.getElem?_cons_zero,List.getElem?_cons_succ] at b0 b1 b2 b3 b4;generalize w1.heap.size=MBk at *;obtain⟨s0,s1,r0,r1,rf,sz⟩:=id hR2
  have HN:Hid (xa1 p.E d m kc kn self args=if mt.args≠args.length then (m,xaU,8) else if mt.prim≠0 then xa7 p.E m mt.prim self args else if (xay p.E d m).2≠0 then (m,xaU,(xay p.E d m).2) else xie p.E d (xay p.E d m).1 (xaG p.E kc kn mt self args)):=by
   show _=_
   rw[HEN.out];unfold xbj xa7;rw[hma]
  have HMA:=hid hma;clear hma HEN
  by_cases hag:mt.args=(args.length:Int)
  ·have hag':(mt.args != (args.length:Int))=false:=by simpa using hag
   rw[if_neg (by simpa using hag)] at HN
   have HAG:=hid hag;clear hag
   by_cases hpr:mt.prim=0
   ·have hpr':(mt.prim != 0)=false:=by simpa using hpr
    rw[if_neg (by simpa using hpr)] at HN
    have HPR:=hid hpr;clear hpr;have hcc:=xd7 d hM2 hI.sz_.1 (by have:=hC.fuel;omega) rfl hd
    obtain⟨m3,e3,hce⟩:∃ m3 e3,xay p.E d m=(m3,e3):=⟨_,_,rfl⟩;rw[hce] at hcc HN;go_wp2_with fail;refine hcc.mono ?_;rintro e w3 ⟨rfl,hM3,hK3⟩;have hR3:=hR2.kp hK3 (by rw[t0];omega) (by rw[t1];omega)
    have hL3:=hC.keep hL2 (.refl _ _) hK3 (by omega) (by omega)
    have hA3:=hA2.fx xaK (.refl _ _) hK3 (by omega)
    have hCo3:=hCo2.fx xbl (.refl _ _) hK3 (by omega)
    have d0:=hK3.cell b0 (by rw[tm];omega)
    have d1:=hK3.cell b1 (by rw[tm];omega)
    have d2:=hK3.cell b2 (by rw[tm];omega)
    have d3:=hK3.cell b3 (by rw[tm];omega)
    have d4:=hK3.cell b4 (by rw[tm];omega)
    have HK3:=hid (HK2.out.trans hX (hK3.mono (S':=All K) fun t h=>Or.inl h))
    have hMz3:MBk<w3.heap.size:=qzE hMz hK3.size;clear hcc hM2 hA2 hL2 hR2 s0 s1 r0 r1 rf sz b0 b1 b2 b3 b4 hK3 hCo2;obtain⟨s0,s1,r0,r1,rf,sz⟩:=id hR3
    by_cases her:e3=0
    ·subst her;have her':((0:Int) != 0)=false:=by simp
     rw[if_neg (by simp)] at HN
     obtain⟨hd0,hm3,hfu⟩:d≠0/\m3={ m with sz_:=m.sz_+1 }/\¬ p.E.fuel<=m.sz_:=by
      unfold xay at hce
      split at hce
      ·cases hce
      ·rename_i k
       split at hce
       ·cases hce
       ·rename_i k2;exact⟨k2,(congrArg Prod.fst hce).symm,k⟩
     obtain⟨d',rfl⟩:∃ d',d=d'+1:=⟨d-1,by omega⟩
     clear hd0 hce;obtain⟨hFo,hGd,hGas⟩:=xmw hC HMA.out hSe hAr;have hStk:=(xlU p.E kc kn mt self args).2.2.2.2;have HN2:Hid (xa1 p.E (d'+1) m kc kn self args=xcL (xa1 p.E d') p.E d' (xeQ (xaG p.E kc kn mt self args)) m3 (xaG p.E kc kn mt self args)):=HN.out;clear HN
     have hI3:MIn p.E m3:=by
      rw[hm3]
      exact⟨hI.heap,⟨by have:=hI.sz_;simp only;omega,by simp only;omega⟩,hI.turns⟩
     have hFo3:FOk p.E.cz m3.heap.length (xaG p.E kc kn mt self args):=by
      rw[hm3]
      exact hFo
     have hRm3:(xaG p.E kc kn mt self args).stack.length+muE m3 (xaG p.E kc kn mt self args)<=1000000:=by
      have:=xkZ (f:=xaG p.E kc kn mt self args) hI3.turns.1;rw[hStk];simp only[List.length_nil]
      omega
     clear hFo hGas hStk
     have hL3':L T1 w3 m3.st (xc7 p.E m3):=by
      rw[hm3]
      exact hC.mono hL3 (by unfold xc7;simp only;omega)
     clear hL3 hm3 hfu;have HMN:Hid (MBk<w3.heap.size):=hMz3;have q8:=hM3.c8;rw[hC.qv] at q8;have hbF:=xaj w3 (FB ⟨kc,mt,self,args,[],[],[],0,false⟩ (.slice ak mt.code.length ck) (.slice aa args.length ca) (.slice none 0 0) (.slice none 0 0) (.slice none 0 0));have hX4:Ext T1 (xhE T1 w3.heap.size K) w3:=xd5 (qzC _);have hkF:Kp (fun _=>False) T1 w3 _:=Kp.of_below hbF
     have hM4:=hM3.keep hX4 hkF id id id;have hL4:=hC.keep hL3' hX4 hkF id id;have hR4:=hR3.kp (T:=T1) hkF id id
     have hNew:FrNew (xhE T1 w3.heap.size K) K (w3.alloc (FB ⟨kc,mt,self,args,[],[],[],0,false⟩ (.slice ak mt.code.length ck) (.slice aa args.length ca) (.slice none 0 0) (.slice none 0 0) (.slice none 0 0))) w3.heap.size ⟨kc,mt,self,args,[],[],[],0,false⟩ (.slice ak mt.code.length ck) (.slice aa args.length ca):=
      ⟨qzJ w3 _,xdv _ _ _,hA3.fx xaK hX4 hkF id,hCo3.fx xbl hX4 hkF id,hK5,rfl⟩
     have HK4:=hid (HK3.out.on hbF);have t04:xhE T1 w3.heap.size K w.heap.size=4:=by rw[hX4 _ (by omega)];exact t0
     have t14:xhE T1 w3.heap.size K (w.heap.size+1)=4:=by rw[hX4 _ (by omega)];exact t1
     have HE4:Hid (Ext T (xhE T1 w3.heap.size K) w):=hX.trans HK3.out.size hX4;have q84:=hM4.c8;rw[hC.qv] at q84;have hcf:=hC.qcf
     go_upto_region 12 with (fail)
     generalize xhE T1 w3.heap.size K=T4 at *;generalize (w3.alloc (FB ⟨kc,mt,self,args,[],[],[],0,false⟩ (.slice ak mt.code.length ck) (.slice aa args.length ca) (.slice none 0 0) (.slice none 0 0) (.slice none 0 0)))=V4 at *;clear d0 d1 d2 d3 d4 s0 s1 r0 r1 rf sz q8 hM3 hL3' hR3 hA3 hCo3 hbF hkF hX4;go_wp2_with fail;refine (hC.quick T4 V4 _ kc kn mt _ hL4 HMA.out).mono ?_;rintro e w5 ⟨⟨fc,fn,fe,ft,aq,nq,cq,rfl,hq5⟩,hb5⟩;have hk5:Kp (fun _=>False) T4 V4 w5:=Kp.of_below hb5
     have hM5:=hM4.later hb5;have hL5:=hC.keep hL4 (.refl _ _) hk5 id id;have hR5:=hR4.kp hk5 id id;have hNew5:=hNew.later hb5;have HK5:=hid (HK4.out.on hb5);clear hM4 hL4 hR4 hNew q84 hk5;go_wp2_with fail;refine (xkc hNew5 p.E fc fn fe ft _ hq5).mono ?_;rintro e w6 ⟨rfl,T6,tv,sv,kv,hX6,hF6,hK6⟩;have hM6:=hM5.keep hX6 hK6 (by omega) (by omega) (by omega)
     have hL6:=hC.keep hL5 hX6 hK6 (by omega) (by omega)
     have hR6:=hR5.kp hK6 (by rw[t04];omega) (by rw[t14];omega)
     have hsz5:=hR5.sz;have t06:T6 w.heap.size=4:=by rw[hX6 _ (by omega)];exact t04
     have t16:T6 (w.heap.size+1)=4:=by rw[hX6 _ (by omega)];exact t14
     have HE6:=hid (HE4.out.trans HK5.out.size hX6);have HK6:=hid (HK5.out.trans HE4.out (hK6.mono (S':=All K) fun t h=>by unfold All;omega))
     clear hM5 hL5 hR5 hNew5 hX6 hK6;have m5:=hM6.c5;have mf:=xam hM6.box;have hcw:IntKind.i64.wrap (20-((d'+1:Nat):Int)+1)=20-(d':Int):=by rw[xaE (by omega) (by omega)];omega
     have hcw2:IntKind.i64.wrap (20-(d':Int)-1)=20-((d'+1:Nat):Int):=by rw[xaE (by omega) (by omega)];omega
     obtain⟨cA,hcA⟩:∃ cA:Int,cA=20-((d'+1:Nat):Int):=⟨_,rfl⟩;obtain⟨cB,hcB⟩:∃ cB:Int,cB=20-(d':Int):=⟨_,rfl⟩;rw[← hcA] at m5 hcw hcw2;rw[← hcB] at hcw hcw2;have HCA:=hid hcA;have HCB:=hid hcB;clear hcA hcB;have k7:Kp (fun t=>t=1) T6 w6 (w6.setCell ⟨mb,5,none⟩ (.int .i64 cB)):=(Kp.refl _ _ _).set (fun _=>hM6.tag) _ _
     have hM7:MacAt p T6 (w6.setCell ⟨mb,5,none⟩ (.int .i64 cB)) mb m3 (20-(d':Int)) hv g s:=hM6.turn (m':=m3) k7 (by rw[xkj hM6.box,HCB.out]) rfl
     have hF7:=hF6.keep (.refl _ _) k7 (by omega) (by omega) (by omega) (by omega)
     have hL7:=hC.keep hL6 (.refl _ _) k7 (by omega) (by omega)
     have hR7:=hR6.kp k7 (by rw[t06];omega) (by rw[t16];omega)
     have HK7:=hid (HK6.out.trans HE6.out (k7.mono (S':=All K) fun t h=>Or.inl h))
     have hfin:=xjh hC (by omega) (hIh d' rfl) hM7 hF7 hL7 hI3 hFo3 hGd hRm3
     generalize xcL (xa1 p.E d') p.E d' (xeQ (xaG p.E kc kn mt self args)) m3 (xaG p.E kc kn mt self args)=R at *;go_wp2_with fail;refine (hfin).mono ?_;rintro e w8 ⟨rfl,⟨T8,hX8,⟨hv8,g8,s8,hM8⟩,hL8⟩,hK8⟩;obtain⟨rm,v,er⟩:=R;simp only at hM8 hL8;have hR8:=hR7.kp hK8 (by rw[t06];unfold All;omega) (by rw[t16];unfold All;omega)
     have hsz7:=hR7.sz;have t18:T8 (w.heap.size+1)=4:=by rw[hX8 _ (by omega)];exact t16
     have t08:T8 w.heap.size=4:=by rw[hX8 _ (by omega)];exact t06
     have HE8:=hid (HE6.out.trans HK7.out.size hX8);have HK8:=hid (HK7.out.trans HE6.out hK8);have m58:=hM8.c5;rw[← HCB.out] at m58;have mf8:=xam hM8.box;have hlm8:mb<w8.heap.size:=xaf hM8.box;have hn8:¬ mb=w8.heap.size:=by omega
     have hn8':¬ w8.heap.size=mb:=by omega
     have HM8:=hid hM8;have HL8:=hid hL8;clear hfin hM7 hF7 hL7 hR7 hM6 hF6 hL6 hR6 k7 m5 mf hX8 hK8 hM8 hL8 hI3 hFo3 hGd hRm3 hcf;have kS:Kp (fun t=>t=1) T8 w8 (w8.setCell ⟨mb,5,none⟩ (.int .i64 cA)):=(Kp.refl _ _ _).set (fun _=>HM8.out.tag) _ _
     have hMS:MacAt p T8 (w8.setCell ⟨mb,5,none⟩ (.int .i64 cA)) mb rm (20-((d'+1:Nat):Int)) hv8 g8 s8:=HM8.out.turn (m':=rm) kS (by rw[xkj HM8.out.box,HCA.out]) rfl
     have hbU:Below (w8.setCell ⟨mb,5,none⟩ (.int .i64 cA)).heap.size (w8.setCell ⟨mb,5,none⟩ (.int .i64 cA)) ((w8.setCell ⟨mb,5,none⟩ (.int .i64 cA)).alloc (.cells #[.int .i64 v.k,.int .i64 v.n] 27)):=xaj _ _;have kU:=kS.on hbU;have hMU:=hMS.later hbU;have hLU:=hC.keep HL8.out (.refl _ _) kU (by omega) (by omega)
     have hRU:=hR8.kp kU (by rw[t08];omega) (by rw[t18];omega)
     have v0:((w8.setCell ⟨mb,5,none⟩ (.int .i64 cA)).alloc (.cells #[.int .i64 v.k,.int .i64 v.n] 27)).cell? ⟨w8.heap.size,0,none⟩=some (.int .i64 v.k):=xaa _ _ _ _ (by simp) 0
     have v1:((w8.setCell ⟨mb,5,none⟩ (.int .i64 cA)).alloc (.cells #[.int .i64 v.k,.int .i64 v.n] 27)).cell? ⟨w8.heap.size,1,none⟩=some (.int .i64 v.n):=xaa _ _ _ _ (by simp) 1
     have HQ:=hid fun u0 u1=>EnPost.fin (r:=(rm,v,er)) hC HE8.out hMU hLU (HK8.out.trans HE8.out (kU.mono fun t h=>Or.inl h)) t18 u0 u1
     clear hMU hLU kU kS hMS hbU
     go_upto_region 16 with (fail)
     generalize ((w8.setCell ⟨mb,5,none⟩ (.int .i64 cA)).alloc (.cells #[.int .i64 v.k,.int .i64 v.n] 27))=U at *;obtain⟨s0,s1,r0,r1,rf,sz⟩:=id hRU;have hnz:¬ w.heap.size+1=w8.heap.size:=by have:=hR8.sz;omega
     have hnz':¬ w8.heap.size=w.heap.size+1:=by have:=hR8.sz;omega
     go_wp2;rw[HN2.out];refine qzK (v:=.tuple #[VV v,.int .i64 er]) ?_ rfl (HQ.out _ _)
     simp[results,Tryz.results61,go_sem,r0,r1]
    ·have her':(e3 != 0)=true:=by simpa using her
     rw[if_pos her] at HN
     have hm3:m3=m:=by
      have:(xay p.E d m).2≠0:=by rw[hce];exact her
      unfold xay at hce this
      split at hce
      ·exact (congrArg Prod.fst hce).symm
      ·rename_i k;rw[if_neg k] at this
       split at hce
       ·exact (congrArg Prod.fst hce).symm
       ·rename_i k2;rw[if_neg k2] at this;exact absurd rfl this
     subst hm3;have HQ:=hid fun u0 u1=>EnPost.fin (r:=(m3,xaU,e3)) hC hX hM3 (by rw[if_neg her];exact hC.mono hL3 (Nat.zero_le _)) HK3.out t1 u0 u1
     clear hM3 hL3 hA3 hR3 hce;go_wp2;rw[HN.out];refine qzK (v:=.tuple #[VV xaU,.int .i64 e3]) ?_ rfl (HQ.out _ _)
     simp[results,Tryz.results61,go_sem,r0,r1]
   ·have hpr':(mt.prim != 0)=true:=by simpa using hpr
    rw[if_pos (by simpa using hpr)] at HN
    clear hpr
    have hbd:∀ v:QV,xas m.heap.length v=0->v.k=3->-1073741824<=v.n/\v.n<=1073741824:=fun v hv h3=>by
     unfold xas xch at hv;rw[h3] at hv
     simp at hv
     omega
    have hpi:=xgv hM2 hI.sz_.1 (by have:=hC.fuel;omega) mt.prim self args _ hA2 (hbd _ hSe) (hbd _ (hAr.entry 0))
    have hsd:(xa7 p.E m mt.prim self args).1.st=m.st/\((xa7 p.E m mt.prim self args).2.2=0->xc7 p.E (xa7 p.E m mt.prim self args).1<=(p.E.fuel-m.sz_).toNat):=by
     unfold xa7
     split
     ·exact⟨rfl,fun h=>by cases h⟩
     ·exact⟨rfl,fun _=>by unfold xc7;simp only;omega⟩
    generalize xa7 p.E m mt.prim self args=r at *;go_wp2_with fail;refine hpi.mono ?_;rintro e w3 ⟨rfl,⟨T3,hX3,hM3⟩,hK3⟩;have hR3:=hR2.kp hK3 (by rw[t0];omega) (by rw[t1];omega)
    have hL3:=hC.keep hL2 hX3 hK3 (by omega) (by omega)
    have t3:T3 (w.heap.size+1)=4:=by rw[hX3 _ (by omega)];exact t1
    have hle:(if r.2.2=0 then xc7 p.E r.1 else 0)<=(p.E.fuel-m.sz_).toNat:=by
     by_cases h0:r.2.2=0
     ·rw[if_pos h0];exact hsd.2 h0
     ·rw[if_neg h0];exact Nat.zero_le _
    have HQ:=hid fun u0 u1=>EnPost.fin (r:=r) hC (hX.trans HK2.out.size hX3) hM3 (by rw[hsd.1];exact hC.mono hL3 hle) (HK2.out.trans hX (hK3.mono fun t h=>Or.inl h)) t3 u0 u1
    clear hpi hM2 hA2 hL2 hR2 s0 s1 r0 r1 rf sz b0 b1 b2 b3 b4 hK3 hM3 hL3;obtain⟨s0,s1,r0,r1,rf,sz⟩:=id hR3;go_wp2;rw[HN.out];refine qzK (v:=.tuple #[VV r.2.1,.int .i64 r.2.2]) ?_ rfl (HQ.out _ _)
    simp[results,Tryz.results61,go_sem,r0,r1]
  ·have hag':(mt.args != (args.length:Int))=true:=by simpa using hag
   rw[if_pos (by simpa using hag)] at HN
   clear hag;have HQ:=hid fun u0 u1=>EnPost.fin (r:=(m,xaU,8)) hC hX hM2 (by rw[if_neg (by simp)];exact hC.mono hL2 (Nat.zero_le _)) HK2.out t1 u0 u1
   clear hM2 hA2 hL2 hR2;go_wp2;rw[HN.out];refine qzK (v:=.tuple #[VV xaU,.int .i64 8]) ?_ rfl (HQ.out _ _)
   simp[results,Tryz.results61,go_sem,r0,r1]
theorem xg6 (hC:Cx p L LF lc QF qc):∀ d,d<=20->xek p L d
 | 0,hd=>xgK hC 0 hd (fun d' h=>by omega)
 | d+1,hd=>xgK hC (d+1) hd (fun d' h=>by
   have:d'=d:=by omega
   subst this
   exact xg6 hC d' (by omega))
end
end Go.Proofs.YtapbeiccodnniaaGreat
