/- A part. -/
import Derived.Test.YtapbeiccodnniaaGreatM35
namespace Go.Proofs.YtapbeiccodnniaaGreat
open Go.ChangeShapes Go.WideShapes Go.ChangeAt Go.RowKit
set_option linter.unusedSimpArgs false
set_option linter.unusedVariables false
set_option maxHeartbeats 8000000
set_option maxRecDepth 8000
section
variable {p:Rp} {d:Nat} {T T1 T2:Nat->Nat} {w wr w2:World} {mb K:Nat} {R:Mc RSt × QV × Int} {av kv:Value} {gk:Nat} {at' at2:Value} {m:Mc RSt} {f:Fr}
theorem xmA {c:Int}{n1 n2 n3 G' k:Nat}{x:QI}{f1:Fr}{hv sv ov st:Value}{w':World}(hX:Rx p)(hR:BdR p d T w mb K R av kv gk at' T1 m f 0 wr)(hg:gk=G'+1)(hx:NxOk f k x)(h17:x.op≠17)(hr:xan (xa1 p.E d) p.E d m { f with pc:=f.pc+1 } f.pc x=xaX m f1 k x.a)(hle:¬ x.a<=k)(ht:m.turns<=300)(hE:Ext T1 T2 wr)(hK:Kp (All K) T1 wr w')(hM:RMac p T2 w' mb m (20-(d:Int)) 0 hv sv ov)(hF:RF T2 K w' w.heap.size f1 av kv st)(hL:xiO c n1 n2 n3 f1) :
  BdX p d T w mb K R av kv c n1 n2 n3 G' (.int .i64 x.a) w':=by
 have hj:xaX m f1 k x.a=(m,{ f1 with pc:=x.a },0):=by unfold xaX;simp only[hle,if_false];rw[if_neg (by omega)]
 exact⟨_,_,_,_,hR.next hX hg hx h17 (hr.trans hj) hE hK hM (fun _=>⟨_,hF.at _⟩) (fun _=>rfl),fun _=>hL⟩
theorem xks {c:Int}{n1 n2 n3 G' k:Nat}{x:QI}{f1:Fr}{hv sv ov st:Value}{w':World}(hX:Rx p)(hR:BdR p d T w mb K R av kv gk at' T1 m f 0 wr)(hg:gk=G'+1)(hx:NxOk f k x)(h17:x.op≠17)(hr:xan (xa1 p.E d) p.E d m { f with pc:=f.pc+1 } f.pc x=xaX m f1 k x.a)(hle:x.a<=k)(ht:m.turns+1<=300)(hE:Ext T1 T2 wr)(hK:Kp (All K) T1 wr w')(hM:RMac p T2 w' mb m (20-(d:Int)) 0 hv sv ov)(hF:RF T2 K w' w.heap.size f1 av kv st)(hL:xiO c n1 n2 n3 f1) :
  BdX p d T w mb K R av kv c n1 n2 n3 G' (.int .i64 x.a) (w'.setCell ⟨mb,5,none⟩ (.int .i64 (m.turns+1))):=by
 have hp:=hF.pos;have hj:xaX m f1 k x.a=({ m with turns:=m.turns+1 },{ f1 with pc:=x.a },0):=by unfold xaX;simp only[hle,if_true];rw[if_neg (by omega)]
 have k1:=kp1 hM 5 (.int .i64 (m.turns+1))
 exact⟨_,_,_,_,hR.next hX hg hx h17 (hr.trans hj) hE (hK.trans hE (k1.mono fun t h=>Or.inl h)) (hM.num5 _) (fun _=>⟨_,(hF.keep (.refl _ _) k1 (by omega) (by omega) (by omega) (by omega) (by omega)).at _⟩) (fun _=>rfl),fun _=>hL⟩
theorem xke {c:Int}{n1 n2 n3 G' k:Nat}{x:QI}{f1:Fr}{hv sv ov:Value}{w':World}{at2:Value}(hX:Rx p)(hR:BdR p d T w mb K R av kv gk at' T1 m f 0 wr)(hg:gk=G'+1)(hx:NxOk f k x)(h17:x.op≠17)(hr:xan (xa1 p.E d) p.E d m { f with pc:=f.pc+1 } f.pc x=xaX m f1 k x.a)(hle:x.a<=k)(ht:¬ m.turns+1<=300)(hE:Ext T1 T2 wr)(hK:Kp (All K) T1 wr w')(hM:RMac p T2 w' mb m (20-(d:Int)) 0 hv sv ov) :
  BdX p d T w mb K R av kv c n1 n2 n3 G' at2 ((w'.setCell ⟨mb,5,none⟩ (.int .i64 (m.turns+1))).setCell ⟨mb,7,none⟩ (.int .i64 16)):=by
 have hj:xaX m f1 k x.a=({ m with turns:=m.turns+1 },f1,16):=by unfold xaX;simp only[hle,if_true];rw[if_pos (by omega)]
 have k1:=kp1 hM 5 (.int .i64 (m.turns+1));have hM1:=hM.num5 (m.turns+1);have k2:=kp1 hM1 7 (.int .i64 16)
 exact⟨_,_,_,_,hR.next hX hg hx h17 (hr.trans hj) hE (hK.trans hE ((k1.mono fun t h=>Or.inl h).trans (.refl _ _) (k2.mono fun t h=>Or.inl h))) (hM1.num7 16) (fun h=>by cases h) (fun h=>by cases h),fun h=>by cases h⟩
theorem xny {err:Int}{hv sv ov:Value}(hR:BdR p d T w mb K R av kv gk at' T1 m f err wr)(hM:RMac p T1 wr mb m (20-(d:Int)) err hv sv ov)(hE:R=(m,xaU,err)):xaS p T w mb (20-(d:Int)) K R (.returned (VV xaU)) ((wr.setCell ⟨w.heap.size+2,0,none⟩ (.int .i64 0)).setCell ⟨w.heap.size+2,1,none⟩ (.int .i64 0)):=by
 have ht:=hR.tres;have k4:Kp (fun t=>t=4) T1 wr ((wr.setCell ⟨w.heap.size+2,0,none⟩ (.int .i64 0)).setCell ⟨w.heap.size+2,1,none⟩ (.int .i64 0)):=((Kp.refl (fun t=>t=4) T1 wr).set (b:=w.heap.size+2) (fun _=>ht) _ _).set (b:=w.heap.size+2) (fun _=>ht) _ _
 subst hE
 exact⟨rfl,⟨T1,_,_,_,hR.ext,hM.keep (.refl _ _) k4 (by omega) (by omega) (by omega) (by omega)⟩,(hR.kp.set (fun h=>by omega) _ _).set (fun h=>by omega) _ _⟩
theorem xlO (hX:Rx p)(hEn:xoY p d)(K:Nat)(T:Nat->Nat)(w:World)(mb:Nat)(m:Mc RSt)(hv sv ov:Value)(c n:Int)(self:QV)(args:List QV)(av:Value)(mt:QM)(kv:Value)(hK:5<=K)(h:RMac p T w mb m (20-(d:Int)) 0 hv sv ov)(hI:MIn p.E m)(hW:Few m)(hFo:FOk p.X.cz m.heap.length (xaG p.E c n mt self args))(hPl:PlOk (xaG p.E c n mt self args))(hA:xaB (Fx T w) w av args)(hC:xa5 (Fx T w) w kv mt.code) :
  Calls Tryz.prog 52 #[.pointer (some ⟨mb,0,none⟩),.int .i64 c,MV mt kv,VV self,av] w fun e w'=>xaS p T w mb (20-(d:Int)) K (xcL (xa1 p.E d) p.E d (xeQ (xaG p.E c n mt self args)) m (xaG p.E c n mt self args)) e w':=by
 obtain⟨aa,ca,rfl,-,hca,-,-⟩:=id hA;obtain⟨ak,ck,rfl,-,hck,-,-⟩:=id hC;unfold maxLen at hca hck;have hfr:xaG p.E c n mt self args=⟨c,mt,self,args,xaQ mt.temps,[],mt.code,0,false⟩:=rfl;have htl:=hPl.temps;have hlm:=xaf h.box;obtain⟨tn,htn⟩:∃ tn:Nat,mt.temps=(tn:Int):=⟨mt.temps.toNat,by rw[hfr] at htl;simp only at htl;omega⟩
 have htr:xaQ mt.temps=List.replicate tn xaU:=by
  rw[hfr] at htl;simp only[xaQ,List.length_replicate] at htl;unfold xaQ
  congr 1
  omega
 have ht40:tn<=40:=by rw[hfr] at htl;simp only[xaQ,List.length_replicate] at htl;omega
 have hmk:=xcA tn (by omega)
 have xcS:=fun (U:World) hb u0 u1 u2 u3 u4=>xjP (U:=U) h hK hI hW hFo hPl (by rw[hfr];exact hA) (by rw[hfr];exact hC) rfl rfl rfl hb u0 u1 u2 u3 u4
 have HSt:=hid xcS;clear xcS hFo hPl hA hC hI hW htl h;obtain⟨f0,hf0⟩:∃ f0,f0=xaG p.E c n mt self args:=⟨_,rfl⟩;obtain⟨e1,e2,e3,e4⟩:f0.meth=mt/\f0.self=self/\f0.temps=List.replicate tn xaU/\f0.cls=c/\f0.args.length=args.length/\f0.code.length=mt.code.length:=by rw[hf0,hfr];exact⟨rfl,rfl,htr,rfl,rfl,rfl⟩
 rw[← hf0] at HSt ⊢;have HM:=hid (And.intro e1 (And.intro e2 (And.intro e3 e4)));generalize xcL (xa1 p.E d) p.E d (xeQ f0) m f0=R at *;generalize hG:xeQ f0=G at *;clear hf0 hfr e1 e2 e3 e4 hG htr;obtain⟨mname,margs,mtemps,mprim,mcode⟩:=mt;simp only at htn HM;subst htn;simp only at *;go_enter Tryz.func52,Tryz.ntmps52
 go_upto_region 4 with (fail)
 have hbU:Below w.heap.size w (((((w.alloc (.cells #[.string mname,.int .i64 margs,.int .i64 (tn:Int),.int .i64 mprim,.slice ak mcode.length ck] 59)).alloc (.cells #[.int .i64 self.k,.int .i64 self.n] 27)).alloc (.cells #[.int .i64 0,.int .i64 0] 27)).alloc (.cells (madeCells #[.int .i64 0,.int .i64 0] (tn*2)) 27)).alloc (.cells #[.slice none 0 0] 28)):=by
  refine (((xfv _ _ _ _).alloc (by simp;omega) _).alloc (by simp;omega) _)
 have hRel:BdR p d T w mb K R (.slice aa args.length ca) (.slice ak mcode.length ck) G (.int .i64 0) (xlK T w.heap.size K) m f0 0 (((((w.alloc (.cells #[.string mname,.int .i64 margs,.int .i64 (tn:Int),.int .i64 mprim,.slice ak mcode.length ck] 59)).alloc (.cells #[.int .i64 self.k,.int .i64 self.n] 27)).alloc (.cells #[.int .i64 0,.int .i64 0] 27)).alloc (.cells (madeCells #[.int .i64 0,.int .i64 0] (tn*2)) 27)).alloc (.cells #[.slice none 0 0] 28)):=by
  obtain⟨g1,g2,g3,-⟩:=HM.out;refine HSt.out _ hbU ?_ ?_ ?_ ?_ ?_
  ·rw[g1];exact (xot w _ _ _ _ _).1.1
  ·rw[g2];exact (xot w _ _ _ _ _).1.2.1
  ·exact (xot w _ _ _ _ _).1.2.2
  ·rw[g3,← xji];exact (xot w _ _ _ _ _).2.1
  ·exact (xot w _ _ _ _ _).2.2
 generalize (((((w.alloc (.cells #[.string mname,.int .i64 margs,.int .i64 (tn:Int),.int .i64 mprim,.slice ak mcode.length ck] 59)).alloc (.cells #[.int .i64 self.k,.int .i64 self.n] 27)).alloc (.cells #[.int .i64 0,.int .i64 0] 27)).alloc (.cells (madeCells #[.int .i64 0,.int .i64 0] (tn*2)) 27)).alloc (.cells #[.slice none 0 0] 28))=W0 at *;clear hbU HSt hmk;have HM2:Hid (f0.meth=⟨mname,margs,tn,mprim,mcode⟩/\f0.self=self):=⟨HM.out.1,HM.out.2.1⟩;simp only[Nat.add_assoc,Nat.reduceAdd];go_wp2
 go_loopg [14] G (fun gk at' wr=>BdX p d T w mb K R (.slice aa args.length ca) (.slice ak mcode.length ck) c args.length tn mcode.length gk at' wr)
 case atStart=>exact⟨_,_,_,_,hRel,fun _=>by obtain⟨g1,g2,g3,g4,g5,g6⟩:=HM.out;exact⟨g4,g5,by rw[g3];simp,g6⟩⟩
 case round=>
  clear hRel;obtain⟨T1,m,f,err,hR,hLen⟩:=hrel;obtain⟨hv1,sv1,ov1,hM⟩:=hR.mac;have c7:=hM.c7
  by_cases herr:err=0
  ·subst herr;obtain⟨l0,l1,l2,l3⟩:=hLen rfl;obtain⟨hI,hW,hFo,hPl,hmu,hval,hat⟩:=hR.min rfl;obtain⟨st,hF⟩:=hR.run rfl;obtain⟨sa,sc,rfl,hsc1,hsc2⟩:=hF.stack.form;unfold maxLen at hsc2;obtain⟨k,x,hx⟩:=hPl.nx;have hpc:=hx.pc;have hkl:=hx.lt
   obtain⟨G',hG'⟩:∃ G',gk=G'+1:=⟨gk-1,by
    have:0<muE m f:=by unfold muE;rw[hpc];simp;omega
    omega⟩
   rw[hpc] at hat;subst hat;have k4:=hF.k4;obtain⟨a',cc',e',hlc,hcc,-,hrow⟩:=hF.code;unfold maxLen at hcc;simp only[Value.slice.injEq] at e';obtain⟨rfl,-,-⟩:=e';obtain⟨bc,oc,hac,-,i0,i1,i2,i3,i4,-⟩:=hrow k x hx.here;have hkm:k<mcode.length:=by omega
   have hk0:(0:Int)<=(k:Int):=by omega
   have hk1:(k:Int)<(mcode.length:Int):=by omega
   have hkw:IntKind.i64.wrap ((k:Int)+1)=(k:Int)+1:=xaE (by omega) (by omega)
   simp only[Nat.add_zero] at i0;subst hac;have hSw0:Below wr.heap.size wr (wr.alloc (.cells #[.int .i64 x.op,.int .i64 x.a,.int .i64 x.b,.int .i64 x.c,.string x.name] 76)):=xaj _ _;have hSw:SwC p d T w mb K R (.slice aa args.length ca) (.slice (some ⟨bc,oc,none⟩) mcode.length ck) gk G' c args.length tn mcode.length T1 m f wr (wr.alloc (.cells #[.int .i64 x.op,.int .i64 x.a,.int .i64 x.b,.int .i64 x.c,.string x.name] 76)) k x hv1 sv1 ov1 sa sc:=⟨hX,hEn,hR,hG',hx,hM,hF,⟨hsc1,by omega⟩,⟨l0,l1,l2,l3⟩,hSw0,xj8 wr x,⟨_,_,rfl,by omega⟩,ht40,⟨hI,hW,hFo,hPl⟩⟩
   have HX:=hid hx;have HSw:=hid hSw;clear hSw hSw0;have HR:=hid hR;have HMa:=hid hM;have HF:=hid hF;have HL:=hid (And.intro l0 (And.intro l1 (And.intro l2 l3)));have HG:=hid hG';have hb1:=xaj wr (.cells #[.int .i64 x.op,.int .i64 x.a,.int .i64 x.b,.int .i64 x.c,.string x.name] 76);have hxb:=(xj8 wr x).x0;have hBl:w.heap.size+4<wr.heap.size:=xaf hF.sb;clear hx hR hM hF hLen hI hW hFo hPl hmu hval hrow hG' hpc hkl l0 l1 l2 l3
   go_upto_region 9 with (fail)
   generalize (wr.alloc (.cells #[.int .i64 x.op,.int .i64 x.a,.int .i64 x.b,.int .i64 x.c,.string x.name] 76))=W at *;have HTu:Hid (0<=m.turns/\m.turns<=300):=HSw.out.min.1.turns;refine xjC HSw.out ?_ (by assumption)
   intros
   rename_i tg w' hok;dsimp only
   rcases hok with ⟨rfl,hBd⟩ | ⟨rfl,h17,f1,T2,hv2,sv2,ov2,st2,e1,e2,e3,e4,e5,e6⟩
   ·have HBd:=hid hBd;have hkk:decide ((k:Int)+1<=(k:Int))=false:=by simp;omega
    clear hBd hxb;go_wp2
    go_roundg G'
    case measure=>have:=HG.out;omega
    case rel=>exact HBd.out
   ·by_cases hle:x.a<=(k:Int)
    ·have hd:decide (x.a<=(k:Int))=true:=by simpa using hle
     have c5:=e3.c5;have f5:=xam e3.box;obtain⟨ht0,ht3⟩:=HTu.out;have htw:IntKind.i64.wrap (m.turns+1)=m.turns+1:=xaE (by omega) (by omega)
     have htw':wrap64 (m.turns+1)=m.turns+1:=by unfold wrap64;omega
     have hN5:=e3.num5 (m.turns+1);have g5:=hN5.c5;have g7:=hN5.c7;have gf:=xam hN5.box;have E6:=hid e6;have E1:=hid e1;have E2:=hid e2;have E3:=hid e3;have E4:=hid e4;have E5:=hid e5;have HLE:=hid hle;have H17:=hid h17;clear e1 e2 e3 e4 e5 e6 hle h17 hN5 hxb ht0 ht3;simp only[] at g5
     by_cases ht:m.turns+1<=300
     ·have hd3:decide (300<m.turns+1)=false:=by simp;omega
      have HT:=hid ht;clear ht;go_wp2
      go_roundg G'
      case measure=>have:=HG.out;omega
      case rel=>exact xks hX HR.out HG.out HX.out H17.out E6.out HLE.out HT.out E1.out E2.out E3.out E4.out E5.out
     ·have hd3:decide (300<m.turns+1)=true:=by simp;omega
      have HT:=hid ht;clear ht;go_wp2
      go_roundg G'
      case measure=>have:=HG.out;omega
      case rel=>exact xke hX HR.out HG.out HX.out H17.out E6.out HLE.out (by have:=HT.out;omega) E1.out E2.out E3.out
    ·have hd:decide (x.a<=(k:Int))=false:=by simpa using hle
     have E6:=hid e6;have E1:=hid e1;have E2:=hid e2;have E3:=hid e3;have E4:=hid e4;have E5:=hid e5;have HLE:=hid hle;have H17:=hid h17;clear e1 e2 e3 e4 e5 e6 hle h17 hxb;go_wp2
     go_roundg G'
     case measure=>have:=HG.out;omega
     case rel=>exact xmA hX HR.out HG.out HX.out H17.out E6.out (by have:=HLE.out;omega) HTu.out.2 E1.out E2.out E3.out E4.out E5.out
  ·have herr':(err == 0)=false:=by simpa using herr
   have HE:=hid (hR.bad herr);have HMa:=hid hM;have HR:=hid hR;have r0:wr.cell? ⟨w.heap.size+2,0,none⟩=some (.int .i64 0):=by rw[qzB hR.res];rfl
   have r1:wr.cell? ⟨w.heap.size+2,1,none⟩=some (.int .i64 0):=by rw[qzB hR.res];rfl
   have rf:=xam hR.res;clear hR hM hLen herr;go_wp2;refine qzK (v:=VV xaU) ?_ rfl (xny HR.out HMa.out HE.out)
   simp[results,Tryz.results52,go_sem,r0,r1]
end
theorem w64 {n:Int}(h0:-9223372036854775808<=n)(h1:n<=9223372036854775807):wrap64 n=n:=by unfold wrap64;omega
theorem xid {N:Int}(h:0<=N)(h1:N<=2000000000000000000):wrap64 (N-wrap64 (wrap64 (N.tdiv 1073741825)*1073741825))=N.tmod 1073741825:=by
 have e:N.tdiv 1073741825=N / 1073741825:=Int.tdiv_eq_ediv_of_nonneg h;have t:N.tmod 1073741825=N % 1073741825:=Int.tmod_eq_emod_of_nonneg h;rw[e,t];have h2:0<=N / 1073741825/\N / 1073741825*1073741825<=N:=by omega
 rw[w64 (n:=N / 1073741825) (by omega) (by omega),w64 (n:=N / 1073741825*1073741825) (by omega) (by omega),w64 (by omega) (by omega)]
 omega
theorem xik {N:Int}(h:¬ 0<=N)(h1:-2000000000000000000<=N):wrap64 (N+wrap64 (wrap64 ((wrap64 (-N)).tdiv 1073741825)*1073741825))=N.tmod 1073741825:=by
 rw[w64 (n:=-N) (by omega) (by omega)]
 have e:(-N).tdiv 1073741825=(-N) / 1073741825:=Int.tdiv_eq_ediv_of_nonneg (by omega)
 have t:N.tmod 1073741825=-((-N) % 1073741825):=by
  rw[← Int.tmod_eq_emod_of_nonneg (show (0:Int)<=-N by omega),Int.neg_tmod,Int.neg_neg]
 rw[e,t];rw[w64 (n:=(-N) / 1073741825) (by omega) (by omega),w64 (n:=(-N) / 1073741825*1073741825) (by omega) (by omega),w64 (by omega) (by omega)]
 omega
theorem xlk (p:Int)(a b:QV)(w:World)(ha:a.k=3->-1073741824<=a.n/\a.n<=1073741824)(hb:b.k=3->-1073741824<=b.n/\b.n<=1073741824):Calls Tryz.prog 51 #[.int .i64 p,VV a,VV b] w fun e w'=>e=.returned (.tuple #[VV (xbA p a b).1,.int .i64 (xbA p a b).2])/\Below w.heap.size w w':=by
 have hR:=xk7 w a b;go_enter Tryz.func51,Tryz.ntmps51
 go_upto_region 1 with (fail)
 generalize (((w.alloc (.cells #[.int .i64 a.k,.int .i64 a.n] 27)).alloc (.cells #[.int .i64 b.k,.int .i64 b.n] 27)).alloc (.cells #[.int .i64 0,.int .i64 0] 27))=W at *;obtain⟨-,a0,a1,b0,b1,r0,r1,rf,sz⟩:=id hR;simp only[Nat.add_assoc,Nat.reduceAdd] at *
 by_cases hk:a.k=3/\b.k=3
 ·have hab:=And.intro (ha hk.1) (hb hk.2);have ak':(a.k != 3)=false:=by simpa using hk.1
  have bk':(b.k != 3)=false:=by simpa using hk.2
  have hP:xbA p a b=if p=1 then (⟨3,(a.n+b.n).tmod 1073741825⟩,0) else if p=2 then (⟨3,(a.n-b.n).tmod 1073741825⟩,0) else if p=3 then (⟨3,(a.n*b.n).tmod 1073741825⟩,0) else if p=4 then (⟨if a.n<b.n then 2 else 1,0⟩,0) else if p=5 then (⟨if a.n=b.n then 2 else 1,0⟩,0) else (xaU,1):=by unfold xbA;rw[if_neg (by omega)]
  have wadd:IntKind.i64.wrap (a.n+b.n)=a.n+b.n:=xaE (by omega) (by omega)
  have wsub:IntKind.i64.wrap (a.n-b.n)=a.n-b.n:=xaE (by omega) (by omega)
  have hm:=xkI hab.1 hab.2;have wmul:IntKind.i64.wrap (a.n*b.n)=a.n*b.n:=xaE (by omega) (by omega)
  have hA:=hid hab;have hM:=hid hm;clear hab hm ha hb hk
  by_cases hp1:p=1
  ·have hV:Hid (xbA p a b=(⟨3,(a.n+b.n).tmod 1073741825⟩,0)):=by show _=_;rw[hP];rw[if_pos hp1]
   have hq1:(p == 1)=true:=by simpa using hp1
   clear hP
   by_cases hs:0<=a.n+b.n
   ·have HM:=hid (xid hs (by have:=hA.out;omega))
    go_wp2;refine qzK (v:=.tuple #[VV ⟨3,(a.n+b.n).tmod 1073741825⟩,.int .i64 0]) ?_ rfl ⟨by have:=hV.out;first | rw[this] | (rw[hp1] at this;rw[this]),(hR.bel.setCell (by simp) _).setCell (by simp) _⟩
    simp[results,Tryz.results51,go_sem,r0,r1]
    exact HM.out
   ·have HM:=hid (xik hs (by have:=hA.out;omega))
    go_wp2;refine qzK (v:=.tuple #[VV ⟨3,(a.n+b.n).tmod 1073741825⟩,.int .i64 0]) ?_ rfl ⟨by have:=hV.out;first | rw[this] | (rw[hp1] at this;rw[this]),(hR.bel.setCell (by simp) _).setCell (by simp) _⟩
    simp[results,Tryz.results51,go_sem,r0,r1]
    exact HM.out
  have hq1:(p == 1)=false:=by simpa using hp1
  by_cases hp2:p=2
  ·have hV:Hid (xbA p a b=(⟨3,(a.n-b.n).tmod 1073741825⟩,0)):=by show _=_;rw[hP];rw[if_neg hp1];rw[if_pos hp2]
   have hq2:(p == 2)=true:=by simpa using hp2
   clear hP
   by_cases hs:0<=a.n-b.n
   ·have HM:=hid (xid hs (by have:=hA.out;omega))
    go_wp2;refine qzK (v:=.tuple #[VV ⟨3,(a.n-b.n).tmod 1073741825⟩,.int .i64 0]) ?_ rfl ⟨by have:=hV.out;first | rw[this] | (rw[hp2] at this;rw[this]),(hR.bel.setCell (by simp) _).setCell (by simp) _⟩
    simp[results,Tryz.results51,go_sem,r0,r1]
    exact HM.out
   ·have HM:=hid (xik hs (by have:=hA.out;omega))
    go_wp2;refine qzK (v:=.tuple #[VV ⟨3,(a.n-b.n).tmod 1073741825⟩,.int .i64 0]) ?_ rfl ⟨by have:=hV.out;first | rw[this] | (rw[hp2] at this;rw[this]),(hR.bel.setCell (by simp) _).setCell (by simp) _⟩
    simp[results,Tryz.results51,go_sem,r0,r1]
    exact HM.out
  have hq2:(p == 2)=false:=by simpa using hp2
  by_cases hp3:p=3
  ·have hV:Hid (xbA p a b=(⟨3,(a.n*b.n).tmod 1073741825⟩,0)):=by show _=_;rw[hP];rw[if_neg hp1];rw[if_neg hp2];rw[if_pos hp3]
   have hq3:(p == 3)=true:=by simpa using hp3
   clear hP
   by_cases hs:0<=a.n*b.n
   ·have HM:=hid (xid hs (by have:=hM.out;omega))
    go_wp2;refine qzK (v:=.tuple #[VV ⟨3,(a.n*b.n).tmod 1073741825⟩,.int .i64 0]) ?_ rfl ⟨by have:=hV.out;first | rw[this] | (rw[hp3] at this;rw[this]),(hR.bel.setCell (by simp) _).setCell (by simp) _⟩
    simp[results,Tryz.results51,go_sem,r0,r1]
    exact HM.out
   ·have HM:=hid (xik hs (by have:=hM.out;omega))
    go_wp2;refine qzK (v:=.tuple #[VV ⟨3,(a.n*b.n).tmod 1073741825⟩,.int .i64 0]) ?_ rfl ⟨by have:=hV.out;first | rw[this] | (rw[hp3] at this;rw[this]),(hR.bel.setCell (by simp) _).setCell (by simp) _⟩
    simp[results,Tryz.results51,go_sem,r0,r1]
    exact HM.out
  have hq3:(p == 3)=false:=by simpa using hp3
  by_cases hp4:p=4
  ·have hV:Hid (xbA p a b=(⟨if decide (a.n<b.n) then 2 else 1,0⟩,0)):=by show _=_;rw[hP];rw[if_neg hp1];rw[if_neg hp2];rw[if_neg hp3];rw[if_pos hp4];simp
   have hq4:(p == 4)=true:=by simpa using hp4
   clear hP;have hrb:=fun w=>xdZ (decide (a.n<b.n)) w
   generalize (if decide (a.n<b.n)=true then (2:Int) else 1)=z at hrb hV;go_wp2_with fail;refine (hrb _).mono ?_;rintro e w1 ⟨rfl,hb1⟩;have hR1:=hR.later hb1;clear a0 a1 b0 b1 r0 r1 rf hR;obtain⟨-,a0,a1,b0,b1,r0,r1,rf,-⟩:=id hR1;go_wp2;refine qzK (v:=.tuple #[VV ⟨z,0⟩,.int .i64 0]) ?_ rfl ⟨by have:=hV.out;first | rw[this] | (rw[hp4] at this;rw[this]),(hR1.bel.setCell (by simp) _).setCell (by simp) _⟩
   simp[results,Tryz.results51,go_sem,r0,r1]
  have hq4:(p == 4)=false:=by simpa using hp4
  by_cases hp5:p=5
  ·have hV:Hid (xbA p a b=(⟨if (a.n == b.n) then 2 else 1,0⟩,0)):=by show _=_;rw[hP];rw[if_neg hp1];rw[if_neg hp2];rw[if_neg hp3];rw[if_neg hp4];rw[if_pos hp5];simp
   have hq5:(p == 5)=true:=by simpa using hp5
   clear hP;have hrb:=fun w=>xdZ ((a.n == b.n)) w
   generalize (if (a.n == b.n)=true then (2:Int) else 1)=z at hrb hV;go_wp2_with fail;refine (hrb _).mono ?_;rintro e w1 ⟨rfl,hb1⟩;have hR1:=hR.later hb1;clear a0 a1 b0 b1 r0 r1 rf hR;obtain⟨-,a0,a1,b0,b1,r0,r1,rf,-⟩:=id hR1;go_wp2;refine qzK (v:=.tuple #[VV ⟨z,0⟩,.int .i64 0]) ?_ rfl ⟨by have:=hV.out;first | rw[this] | (rw[hp5] at this;rw[this]),(hR1.bel.setCell (by simp) _).setCell (by simp) _⟩
   simp[results,Tryz.results51,go_sem,r0,r1]
  have hq5:(p == 5)=false:=by simpa using hp5
  have hV:Hid (xbA p a b=(xaU,1)):=by show _=_;rw[hP,if_neg hp1,if_neg hp2,if_neg hp3,if_neg hp4,if_neg hp5]
  clear hP;go_wp2;refine qzK (v:=.tuple #[VV xaU,.int .i64 1]) ?_ rfl ⟨by rw[hV.out],(hR.bel.setCell (by simp) _).setCell (by simp) _⟩
  simp[results,Tryz.results51,go_sem,r0,r1]
 ·have hV:Hid (xbA p a b=(xaU,12)):=by show _=_;unfold xbA;rw[if_pos (by omega)]
  by_cases h1:a.k=3
  ·have ak':(a.k != 3)=false:=by simpa using h1
   have bk':(b.k != 3)=true:=by simp;omega
   go_wp2;refine qzK (v:=.tuple #[VV xaU,.int .i64 12]) ?_ rfl ⟨by rw[hV.out],(hR.bel.setCell (by simp) _).setCell (by simp) _⟩
   simp[results,Tryz.results51,go_sem,r0,r1]
  ·have ak':(a.k != 3)=true:=by simpa using h1
   go_wp2;refine qzK (v:=.tuple #[VV xaU,.int .i64 12]) ?_ rfl ⟨by rw[hV.out],(hR.bel.setCell (by simp) _).setCell (by simp) _⟩
   simp[results,Tryz.results51,go_sem,r0,r1]
end Go.Proofs.YtapbeiccodnniaaGreat
