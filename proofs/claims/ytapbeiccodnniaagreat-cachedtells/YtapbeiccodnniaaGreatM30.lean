/- A part. -/
import Derived.Test.YtapbeiccodnniaaGreatM29
namespace Go.Proofs.YtapbeiccodnniaaGreat
open Go.ChangeShapes Go.WideShapes Go.ChangeAt Go.RowKit
set_option linter.unusedSimpArgs false
set_option linter.unusedVariables false
set_option maxHeartbeats 8000000
set_option maxRecDepth 100000
theorem br1:Br 1:=by
 intro p d T T1 w wr W mb K R av kv gk G' m f c n1 n2 n3 k x hv sv ov sa sc H hop
 intros
 rename_i hN K9 hK9;obtain⟨hX,HEn,HR,HG,HX,HMa,HF,HL,HB1,HI,hM1,hF1,hsc1,hsc2,hBl,hWl,hxb,⟨aa,ca,rfl,hca⟩,ht40⟩:=H.pre;have HOP:=hid hop;clear hop;unfold xdw;unfold sw9 at hK9
 have HPU:Hid (xaA m.heap { f with pc:=f.pc+1 } x=some f.self):=by
  show _=_
  have hop:x.op=1:=HOP.out;unfold xaA
  simp[hop]
 have hst0:=hF1.st;have x1:=hxb.x1;have v0:=hF1.v0;have v1:=hF1.v1;have HSt:=hid hF1.stack;have hfw:=HX.out.few
 go_wp2_with (at_builtin;refine xce rfl (.tmp 45) (.tmp 47) 28 27 _ 2 16 rfl Tryz.underlying28 xbW rfl (by omega) 0 f.stack.length (.slice sa f.stack.length sc) (xal f.stack) rfl (HSt.out.alloc _) W.heap.size rfl [.int .i64 f.self.k,.int .i64 f.self.n] rfl (qzJ _ _) (by intro u hu;simp only[List.mem_cons,List.not_mem_nil,or_false] at hu;rcases hu with h | h<;>(subst h;rfl)) (by unfold maxLen;omega) (by omega) (by omega) ?_;intro a' cap' w' r1 r2 r3 r4;have hbU:=xah HB1.out (xaj W (.cells #[.int .i64 f.self.k,.int .i64 f.self.n] 27));obtain⟨d0,df⟩:=xbR HF.out hbU r4;have R1:=hid r1;have R2:=hid r2;have R3:=hid r3;have R4:=hid r4;have HBU:=hid hbU;clear r1 r2 r3 r4 hbU)
 exact Or.inl ⟨rfl,xcF hX HR.out HG.out HX.out HPU.out HMa.out HF.out HL.out HBU.out R1.out R2.out R3.out R4.out⟩
theorem br2:Br 2:=by
 intro p d T T1 w wr W mb K R av kv gk G' m f c n1 n2 n3 k x hv sv ov sa sc H hop
 intros
 rename_i hN K9 hK9;obtain⟨hX,HEn,HR,HG,HX,HMa,HF,HL,HB1,HI,hM1,hF1,hsc1,hsc2,hBl,hWl,hxb,⟨aa,ca,rfl,hca⟩,ht40⟩:=H.pre;have HOP:=hid hop;clear hop;unfold xdw;unfold sw9 at hK9;have hst0:=hF1.st;have x1:=hxb.x1;have hfw:=HX.out.few;obtain⟨ha0,ha1⟩:=HX.out.arg HOP.out;obtain⟨j,hj⟩:∃ j:Nat,x.a=(j:Int):=⟨x.a.toNat,by omega⟩
 have hl1:=HL.out.2.1;have hjl:j<f.args.length:=by omega
 have hy:f.args[j]?=some f.args[j]:=by simp[hjl]
 have HPU:Hid (xaA m.heap { f with pc:=f.pc+1 } x=some f.args[j]):=by
  show _=_
  have hop:x.op=2:=HOP.out;unfold xaA xaM
  simp[hop,hj,hjl]
  omega
 generalize f.args[j]=y at *;obtain⟨aa',ca',e',-,-,-,hrow⟩:=hF1.args;simp only[Value.slice.injEq] at e';obtain⟨rfl,-,-⟩:=e';obtain⟨ba,oa,rfl,-,y0,y1⟩:=hrow j y hy;simp only[Nat.add_zero] at y0;have hj1:(j:Int)<(n1:Int):=by omega
 have hj0:(0:Int)<=(j:Int):=by omega
 rw[hj] at x1;clear hrow hy ha0 ha1 hj;have hst0a:=qzA (xaj W (.cells #[.int .i64 y.k,.int .i64 y.n] 27)) hst0;have hst:ownsAt (W.alloc (.cells #[.int .i64 y.k,.int .i64 y.n] 27)).drew 0 27 2 (.slice sa f.stack.length sc) f.stack.length (xal f.stack):=(hF1.stack.alloc _).keep fun g hg=>rfl
 obtain⟨v',w',hrun,r1,r2,r3,r4⟩:=xaF (w:=(W.alloc (.cells #[.int .i64 y.k,.int .i64 y.n] 27)).drew) 28 28 27 _ 2 16 Tryz.underlying28 xbW rfl (by omega) 0 f.stack.length (.slice sa f.stack.length sc) (xal f.stack) hst W.heap.size [.int .i64 y.k,.int .i64 y.n] rfl (qzJ W _) (by intro u hu;simp only[List.mem_cons,List.not_mem_nil,or_false] at hu;rcases hu with h | h<;>(subst h;rfl)) (by unfold maxLen;omega) (by omega) (by omega)
 obtain⟨a',cap',rfl,-⟩:=r1.form;have hbU:Below wr.heap.size wr (W.alloc (.cells #[.int .i64 y.k,.int .i64 y.n] 27)).drew:=xah HB1.out (xaj _ _).drew;obtain⟨d0,df⟩:=xbR HF.out hbU r4;have R1:=hid r1;have R2:=hid r2;have R3:=hid r3;have R4:=hid r4;have HBU:=hid hbU;clear r1 r2 r3 r4 hbU hst hM1 hF1
 go_upto_region 12 with (fail)
 go_region_law (refine xat rfl (.tmp 51) (.tmp 57) 28 rfl (.slice sa f.stack.length sc) (.slice (some ⟨W.heap.size,0,none⟩) 1 1) (.slice a' (f.stack.length+1) cap') (by simp[Act.eval,Act.put]) (by simp[Act.eval,Act.put]) hrun ?_)
 all_goals (
  go_wp2
  exact Or.inl ⟨rfl,xcF hX HR.out HG.out HX.out HPU.out HMa.out HF.out HL.out HBU.out R1.out R2.out R3.out R4.out⟩)
theorem br3:Br 3:=by
 intro p d T T1 w wr W mb K R av kv gk G' m f c n1 n2 n3 k x hv sv ov sa sc H hop
 intros
 rename_i hN K9 hK9;obtain⟨hX,HEn,HR,HG,HX,HMa,HF,HL,HB1,HI,hM1,hF1,hsc1,hsc2,hBl,hWl,hxb,⟨aa,ca,rfl,hca⟩,ht40⟩:=H.pre;have HOP:=hid hop;clear hop;unfold xdw;unfold sw9 at hK9;have hst0:=hF1.st;have x1:=hxb.x1;have hfw:=HX.out.few;obtain⟨ha0,ha1⟩:=HX.out.temp (Or.inl HOP.out);obtain⟨j,hj⟩:∃ j:Nat,x.a=(j:Int):=⟨x.a.toNat,by omega⟩
 have hl1:=HL.out.2.2.1;have hjl:j<f.temps.length:=by omega
 have hy:f.temps[j]?=some f.temps[j]:=by simp[hjl]
 have HPU:Hid (xaA m.heap { f with pc:=f.pc+1 } x=some f.temps[j]):=by
  show _=_
  have hop:x.op=3:=HOP.out;unfold xaA xaM
  simp[hop,hj,hjl]
  omega
 generalize f.temps[j]=y at *;obtain⟨y0,y1⟩:=xeL hF1.tm hy;have hj1:(j:Int)<(n2:Int):=by omega
 have hj0:(0:Int)<=(j:Int):=by omega
 rw[hj] at x1;clear hy ha0 ha1 hj;have hst0a:=qzA (xaj W (.cells #[.int .i64 y.k,.int .i64 y.n] 27)) hst0;have hst:ownsAt (W.alloc (.cells #[.int .i64 y.k,.int .i64 y.n] 27)).drew 0 27 2 (.slice sa f.stack.length sc) f.stack.length (xal f.stack):=(hF1.stack.alloc _).keep fun g hg=>rfl
 obtain⟨v',w',hrun,r1,r2,r3,r4⟩:=xaF (w:=(W.alloc (.cells #[.int .i64 y.k,.int .i64 y.n] 27)).drew) 28 28 27 _ 2 16 Tryz.underlying28 xbW rfl (by omega) 0 f.stack.length (.slice sa f.stack.length sc) (xal f.stack) hst W.heap.size [.int .i64 y.k,.int .i64 y.n] rfl (qzJ W _) (by intro u hu;simp only[List.mem_cons,List.not_mem_nil,or_false] at hu;rcases hu with h | h<;>(subst h;rfl)) (by unfold maxLen;omega) (by omega) (by omega)
 obtain⟨a',cap',rfl,-⟩:=r1.form;have hbU:Below wr.heap.size wr (W.alloc (.cells #[.int .i64 y.k,.int .i64 y.n] 27)).drew:=xah HB1.out (xaj _ _).drew;obtain⟨d0,df⟩:=xbR HF.out hbU r4;have R1:=hid r1;have R2:=hid r2;have R3:=hid r3;have R4:=hid r4;have HBU:=hid hbU;clear r1 r2 r3 r4 hbU hst hM1 hF1
 go_upto_region 14 with (fail)
 go_region_law (refine xat rfl (.tmp 61) (.tmp 67) 28 rfl (.slice sa f.stack.length sc) (.slice (some ⟨W.heap.size,0,none⟩) 1 1) (.slice a' (f.stack.length+1) cap') (by simp[Act.eval,Act.put]) (by simp[Act.eval,Act.put]) hrun ?_)
 all_goals (
  go_wp2
  exact Or.inl ⟨rfl,xcF hX HR.out HG.out HX.out HPU.out HMa.out HF.out HL.out HBU.out R1.out R2.out R3.out R4.out⟩)
set_option maxRecDepth 8000
section
variable {p:Rp} {d:Nat} {T T1 T2:Nat->Nat} {w wr w2:World} {mb K:Nat} {R:Mc RSt × QV × Int} {av kv:Value} {gk:Nat} {at' at2:Value} {m:Mc RSt} {f:Fr}
variable {c:Int} {n1 n2 n3 G' k:Nat} {x:QI} {hv sv ov st st':Value} {U w':World}
theorem xnw (hX:Rx p)(hR:BdR p d T w mb K R av kv gk at' T1 m f 0 wr)(hg:gk=G'+1)(hx:NxOk f k x)(hop:x.op=10)(hM:RMac p T1 wr mb m (20-(d:Int)) 0 hv sv ov)(hL:xiO c n1 n2 n3 f)(hn:0<f.stack.length){W:World}(hW:Below wr.heap.size wr W){W2:World}(hF:RF T1 K W2 w.heap.size f.pop av kv st)(hK:Kp (fun t=>t=K\/t=K+2) T1 W W2)(hU:Below W2.heap.size W2 U)
  (r1:ownsAt w' 0 27 2 st' (f.pop.stack.length+2) (xal f.pop.stack++[.int .i64 f.top.k,.int .i64 f.top.n,.int .i64 f.top.k,.int .i64 f.top.n])) (r2:st'.ownBlock=st.ownBlock\/∃ g,st'.ownBlock=some g/\U.heap.size<=g) (r3:Below 0 U w') (r4:∀ b,b<U.heap.size->some b≠st.ownBlock->w'.heap[b]?=U.heap[b]?) :
  BdX p d T w mb K R av kv c n1 n2 n3 G' (.int .i64 ((k:Int)+1)) (w'.setCell ⟨w.heap.size+4,0,none⟩ st'):=by
 have hp:=hF.pos;have hfew:=hx.few;have hpl:f.pop.stack.length+1=f.stack.length:=by unfold Fr.pop;simp;omega
 obtain⟨⟨T2,e1,e2⟩,e3⟩:=hF.pushed (vs:=[f.top,f.top]) hU (by simp;omega) (by simpa [xal] using r1) r2 r3 r4
 have hstk:f.pop.stack++[f.top,f.top]=f.stack++[f.top]:=by
  have:f.stack=f.pop.stack++[f.top]:=by
   unfold Fr.pop Fr.top xaW xaM;simp only;rw[if_neg (by omega)]
   have hne:f.stack≠[]:=by intro h;rw[h] at hn;simp at hn
   have hl:((f.stack.length:Int)-1-0).toNat=f.stack.length-1:=by omega
   rw[hl,List.getElem?_eq_getElem (by omega)]
   simp only[Option.getD_some];rw[← List.getLast_eq_getElem hne]
   exact (List.dropLast_concat_getLast hne).symm
  conv=>rhs;rw[this]
  simp
 have hr:xan (xa1 p.E d) p.E d m { f with pc:=f.pc+1 } f.pc x=(m,({ f with pc:=f.pc+1 }:Fr).push f.top,0):=by
  rw[xbK _ _ (by omega)];unfold xcy;rw[if_neg (by omega),if_pos hop];rfl
 have kW:Kp (fun t=>t=K\/t=K+2) T1 wr W2:=(Kp.of_below hW).trans (.refl _ _) hK
 have kk:Kp (fun t=>t=K\/t=K+2) T1 wr (w'.setCell ⟨w.heap.size+4,0,none⟩ st'):=kW.trans (.refl _ _) e3
 have eE:Ext T1 T2 wr:=fun b hb=>e1 b (qzE hb kW.size)
 have hf2:RF T2 K (w'.setCell ⟨w.heap.size+4,0,none⟩ st') w.heap.size { f with stack:=f.stack++[f.top] } av kv st':=by rw[← hstk];exact e2
 exact xcj hX hR hg hx (by omega) hr eE (xdB kk fun t ht=>by omega) (hM.keep eE kk (by omega) (by omega) (by omega) (by omega)) (fun _=>⟨_,hf2.at _⟩) (fun _=>by show f.pc+1=_;rw[hx.pc]) (fun _=>hL)
theorem xi1 (hx:NxOk f k x)(h:xaN x k=⟨1,-1,[(k:Int)+1]⟩):0<f.stack.length:=by
 have:=hx.need;rw[h] at this;simp only[] at this
 omega
theorem RF.t4W (h:RF T1 K wr w.heap.size f av kv st)(hb:Below wr.heap.size wr U):RF (xau T1 wr 4) K U w.heap.size f av kv st:=h.keep (S:=fun _=>False) (xao T1 wr 4) (.of_below hb) id id id id id
theorem RMac.t4W {err:Int}(h:RMac p T1 wr mb m (20-(d:Int)) err hv sv ov)(hb:Below wr.heap.size wr U):RMac p (xau T1 wr 4) U mb m (20-(d:Int)) err hv sv ov:=h.keep (S:=fun _=>False) (xao T1 wr 4) (.of_below hb) id id id id
theorem kp4 {S:Nat->Prop}{W W2:World}(hb:Below wr.heap.size wr W)(k:Kp S (xau T1 wr 4) W W2):Kp S T1 wr W2:=by
 refine (Kp.of_below hb).trans (T':=xau T1 wr 4) (xao T1 wr 4) k
theorem xnj (hX:Rx p)(hR:BdR p d T w mb K R av kv gk at' T1 m f 0 wr)(hg:gk=G'+1)(hx:NxOk f k x)(hop:x.op=11){j:Nat}(hj:x.a=(j:Int))(hM:RMac p T1 wr mb m (20-(d:Int)) 0 hv sv ov)(hL:xiO c n1 n2 n3 f){W W2:World}(hW:Below wr.heap.size wr W)(hF:RF (xau T1 wr 4) K W2 w.heap.size f.pop av kv st)(hK:Kp (fun t=>t=K\/t=K+2) (xau T1 wr 4) W W2) :
  BdX p d T w mb K R av kv c n1 n2 n3 G' (.int .i64 ((k:Int)+1)) ((W2.setCell ⟨w.heap.size+3,j*2,none⟩ (.int .i64 f.top.k)).setCell ⟨w.heap.size+3,j*2+1,none⟩ (.int .i64 f.top.n)):=by
 have hp:=hF.pos;obtain⟨e1,e2⟩:=hF.temped j f.top
 have hr:xan (xa1 p.E d) p.E d m { f with pc:=f.pc+1 } f.pc x=(m,{ ({ f with pc:=f.pc+1 }:Fr).pop with temps:=f.temps.set j f.top },0):=by
  rw[xbK _ _ (by omega)];unfold xcy;rw[if_neg (by omega),if_neg (by omega),if_pos hop]
  unfold xaV;rw[if_neg (by omega),hj];simp;rfl
 have k1:=(hK.mono (S':=fun t=>t=K\/t=K+1\/t=K+2) fun t h=>by omega).trans (.refl _ _) (e2.mono (S':=fun t=>t=K\/t=K+1\/t=K+2) fun t h=>by omega)
 have k2:=kp4 hW k1
 exact xcj hX hR hg hx (by omega) hr (xao T1 wr 4) (xdB k2 fun t ht=>by omega) (hM.keep (xao T1 wr 4) k2 (by omega) (by omega) (by omega) (by omega)) (fun _=>⟨_,e1.at _⟩) (fun _=>by show f.pc+1=_;rw[hx.pc]) (fun _=>⟨hL.1,hL.2.1,by show (f.temps.set j f.top).length=_;rw[List.length_set];exact hL.2.2.1,hL.2.2.2⟩)
theorem xnA (hX:Rx p)(hR:BdR p d T w mb K R av kv gk at' T1 m f 0 wr)(hg:gk=G'+1)(hx:NxOk f k x)(hop:x.op=12){j:Nat}(hj:x.a=(j:Int))(hL:xiO c n1 n2 n3 f){W W2 W3:World}(hW:Below wr.heap.size wr W)(hF:RF (xau T1 wr 4) K W2 w.heap.size f.pop av kv st)(hK:Kp (fun t=>t=K\/t=K+2) (xau T1 wr 4) W W2){T3:Nat->Nat}{hv3:Value}(hE3:Ext (xau T1 wr 4) T3 W2)(hM3:RMac p T3 W3 mb { m with heap:=xaR m.heap f.self j f.top } (20-(d:Int)) 0 hv3 sv ov)(hK3:Kp (fun t=>t=1) (xau T1 wr 4) W2 W3) :
  BdX p d T w mb K R av kv c n1 n2 n3 G' (.int .i64 ((k:Int)+1)) W3:=by
 have hp:=hF.pos
 have hr:xan (xa1 p.E d) p.E d m { f with pc:=f.pc+1 } f.pc x=({ m with heap:=xaR m.heap f.self j f.top },({ f with pc:=f.pc+1 }:Fr).pop,0):=by
  rw[xbK _ _ (by omega)];unfold xcy;rw[if_neg (by omega),if_neg (by omega),if_neg (by omega),if_pos hop,hj];rfl
 have k1:Kp (All K) (xau T1 wr 4) W W3:=(xdB hK fun t ht=>by omega).trans (.refl _ _) (xdB hK3 fun t ht=>by omega)
 have eE:Ext T1 T3 wr:=fun b hb=>(hE3 b (by have:=hW.size;have:=hK.size;omega)).trans (xao T1 wr 4 b hb)
 exact xcj hX hR hg hx (by omega) hr eE (kp4 hW k1) hM3 (fun _=>⟨_,(hF.keep hE3 hK3 (by omega) (by omega) (by omega) (by omega) (by omega)).at _⟩) (fun _=>by show f.pc+1=_;rw[hx.pc]) (fun _=>hL)
theorem xl7 {S n:Int}{mt:QM}(h:xgk S n mt x=0)(ho:x.op=4\/x.op=12):0<=x.a:=by
 unfold xgk at h
 split at h
 ·cases h
 ·rename_i h1
  split at h
  ·cases h
  ·rename_i hra
   rcases ho with ho | ho<;>(simp[raE,ho,inR] at hra;omega)
theorem xnv (hP:PlOk f)(hx:NxOk f k x)(ho:x.op=4\/x.op=12):0<=x.a:=by
 obtain⟨S,n,hn⟩:=hP.nums
 exact xl7 (hn x (List.mem_of_getElem? hx.here)) ho
theorem xlQ (hX:Rx p)(hR:BdR p d T w mb K R av kv gk at' T1 m f 0 wr)(hg:gk=G'+1)(hx:NxOk f k x)(hop:x.op=16)(h1:f.top.k≠1)(h2:f.top.k≠2){T2:Nat->Nat}{W2:World}(hE:Ext T1 T2 wr)(hK:Kp (All K) T1 wr W2)(hM:RMac p T2 W2 mb m (20-(d:Int)) 11 hv sv ov) :
  BdX p d T w mb K R av kv c n1 n2 n3 G' (.int .i64 ((k:Int)+1)) W2:=by
 have hr:xan (xa1 p.E d) p.E d m { f with pc:=f.pc+1 } f.pc x=(m,{ f with pc:=f.pc+1 },11):=by
  rw[xbK _ _ (by omega)];unfold xcy;rw[if_neg (by omega),if_neg (by omega),if_neg (by omega),if_neg (by omega),if_neg (by omega),if_neg (by omega),if_neg (by omega),if_pos hop]
  unfold xbr
  show (if f.top.k=2 then _ else if f.top.k=1 then _ else _)=_
  rw[if_neg (show ¬ f.top.k=2 from h2),if_neg (show ¬ f.top.k=1 from h1)]
 exact xcj hX hR hg hx (by omega) hr hE hK hM (fun h=>by cases h) (fun h=>by cases h) (fun h=>by cases h)
theorem xnO (hX:Rx p)(hR:BdR p d T w mb K R av kv gk at' T1 m f 0 wr)(hg:gk=G'+1)(hx:NxOk f k x)(hop:x.op=16)(h2:f.top.k=2)(hL:xiO c n1 n2 n3 f){T2:Nat->Nat}{W2:World}(hE:Ext T1 T2 wr)(hK:Kp (All K) T1 wr W2)(hM:RMac p T2 W2 mb m (20-(d:Int)) 0 hv sv ov)(hF:RF T2 K W2 w.heap.size f.pop av kv st) :
  BdX p d T w mb K R av kv c n1 n2 n3 G' (.int .i64 ((k:Int)+1)) W2:=by
 have hr:xan (xa1 p.E d) p.E d m { f with pc:=f.pc+1 } f.pc x=(m,({ f with pc:=f.pc+1 }:Fr).pop,0):=by
  rw[xbK _ _ (by omega)];unfold xcy;rw[if_neg (by omega),if_neg (by omega),if_neg (by omega),if_neg (by omega),if_neg (by omega),if_neg (by omega),if_neg (by omega),if_pos hop]
  unfold xbr
  show (if f.top.k=2 then _ else if f.top.k=1 then _ else _)=_
  rw[if_pos (show f.top.k=2 from h2)]
 exact xcj hX hR hg hx (by omega) hr hE hK hM (fun _=>⟨_,hF.at _⟩) (fun _=>by show f.pc+1=_;rw[hx.pc]) (fun _=>hL)
theorem xkd (hop:x.op=16)(h1:f.top.k=1)(hx:NxOk f k x):xan (xa1 p.E d) p.E d m { f with pc:=f.pc+1 } f.pc x=xaX m ({ f with pc:=f.pc+1 }:Fr).pop k x.a:=by
 rw[xbK _ _ (by omega)];unfold xcy;rw[if_neg (by omega),if_neg (by omega),if_neg (by omega),if_neg (by omega),if_neg (by omega),if_neg (by omega),if_neg (by omega),if_pos hop]
 unfold xbr
 show (if f.top.k=2 then _ else if f.top.k=1 then _ else _)=_
 rw[if_neg (show ¬ f.top.k=2 by omega),if_pos (show f.top.k=1 from h1),hx.pc]
theorem xkM (hop:x.op=15)(hx:NxOk f k x):xan (xa1 p.E d) p.E d m { f with pc:=f.pc+1 } f.pc x=xaX m { f with pc:=f.pc+1 } k x.a:=by
 rw[xbK _ _ (by omega)];unfold xcy;rw[if_neg (by omega),if_neg (by omega),if_neg (by omega),if_neg (by omega),if_neg (by omega),if_neg (by omega),if_pos hop,hx.pc]
theorem xcD (hF:RF T1 K wr w.heap.size f av kv st)(r4:∀ b,b<U.heap.size->some b≠st.ownBlock->w'.heap[b]?=U.heap[b]?){b o:Nat}{v:Value}(ht:b<wr.heap.size->T1 b≠K+2)(h:U.cell? ⟨b,o,none⟩=some v):w'.cell? ⟨b,o,none⟩=some v:=by
 have hl:=World.block_lt_of_cell? U ⟨b,o,none⟩ h;have hne:some b≠st.ownBlock:=fun e=>ht (hF.stack.lt b e.symm).2 (hF.stag b e.symm)
 unfold World.cell? at h ⊢;rw[r4 b hl hne]
 exact h
end
set_option maxRecDepth 100000
theorem br4:Br 4:=by
 intro p d T T1 w wr W mb K R av kv gk G' m f c n1 n2 n3 k x hv sv ov sa sc H hop
 intros
 rename_i hN K9 hK9;obtain⟨hX,HEn,HR,HG,HX,HMa,HF,HL,HB1,HI,hM1,hF1,hsc1,hsc2,hBl,hWl,hxb,⟨aa,ca,rfl,hca⟩,ht40⟩:=H.pre;have HOP:=hid hop;clear hop;unfold xdw;unfold sw9 at hK9;have hfw:=HX.out.few
 have HPU:Hid (xaA m.heap { f with pc:=f.pc+1 } x=some (xcV m.heap f.self x.a)):=by
  show _=_
  have hop:x.op=4:=HOP.out;unfold xaA
  simp[hop]
 obtain⟨ah,ch,rfl,-⟩:=id hM1.heap;have hSl:∀ w',Below W.heap.size W w'->w'.cell? ⟨w.heap.size+4,0,none⟩=some (.slice sa f.stack.length sc)/\w'.cell? ⟨mb,1,none⟩=some (.slice ah m.heap.length ch)/\w'.cell? ⟨w.heap.size+1,0,none⟩=some (.int .i64 f.self.k)/\w'.cell? ⟨w.heap.size+1,1,none⟩=some (.int .i64 f.self.n)/\w'.cell? ⟨wr.heap.size,1,none⟩=some (.int .i64 x.a):=fun w' hb=>⟨qzA hb hF1.st,qzA hb hM1.c1,qzA hb hF1.v0,qzA hb hF1.v1,qzA hb hxb.x1⟩
 have hS0:=hSl _ (qzL _ W).drew
 go_upto_region 16 with (fail)
 refine xfz (S:=fun w'=>w'.cell? ⟨w.heap.size+4,0,none⟩=some (.slice sa f.stack.length sc)/\w'.cell? ⟨mb,1,none⟩=some (.slice ah m.heap.length ch)/\w'.cell? ⟨w.heap.size+1,0,none⟩=some (.int .i64 f.self.k)/\w'.cell? ⟨w.heap.size+1,1,none⟩=some (.int .i64 f.self.n)/\w'.cell? ⟨wr.heap.size,1,none⟩=some (.int .i64 x.a)) 12 (by kernel_rfl) ?_
 refine xbs (i:=0) (oi:=⟨some 71,.load 28 (.tmp 12),28,_,_,none⟩) (v:=.slice sa f.stack.length sc) (by kernel_rfl) rfl rfl (by kernel_rfl) (by kernel_rfl) (by kernel_rfl) (fun _ _ _ h=>h) (Or.inl ⟨by rfl,?_⟩) hS0 ?_
 ·rintro w⟨q0,q1,q2,q3,q4⟩;go_simp
 try simp only[Act.put,qzF,qzG,qzH]
 refine xbs (i:=1) (oi:=⟨some 72,.move (.tmp 0),47,_,_,none⟩) (v:=.pointer (some ⟨mb,0,none⟩)) (by kernel_rfl) rfl rfl (by kernel_rfl) (by kernel_rfl) (by kernel_rfl) (fun _ _ _ h=>h) (Or.inl ⟨by rfl,?_⟩) hS0 ?_
 ·rintro w⟨q0,q1,q2,q3,q4⟩;go_simp
 try simp only[Act.put,qzF,qzG,qzH]
 refine xbs (i:=2) (oi:=⟨some 73,.nilCheck (.tmp 72),0,_,_,none⟩) (v:=.pointer (some ⟨mb,0,none⟩)) (by kernel_rfl) rfl rfl (by kernel_rfl) (by kernel_rfl) (by kernel_rfl) (fun _ _ _ h=>h) (Or.inl ⟨by rfl,?_⟩) hS0 ?_
 ·rintro w⟨q0,q1,q2,q3,q4⟩;go_simp
 try simp only[Act.put,qzF,qzG,qzH]
 refine xbs (i:=3) (oi:=⟨some 74,.fieldAddr 89 (.tmp 73) 0,0,_,_,none⟩) (v:=.pointer (some ⟨mb,0,none⟩)) (by kernel_rfl) rfl rfl (by kernel_rfl) (by kernel_rfl) (by kernel_rfl) (fun _ _ _ h=>h) (Or.inl ⟨by rfl,?_⟩) hS0 ?_
 ·rintro w⟨q0,q1,q2,q3,q4⟩;go_simp
 try simp only[Act.put,qzF,qzG,qzH]
 refine xbs (i:=4) (oi:=⟨some 75,.fieldAddr 25 (.tmp 74) 1,0,_,_,none⟩) (v:=.pointer (some ⟨mb,1,none⟩)) (by kernel_rfl) rfl rfl (by kernel_rfl) (by kernel_rfl) (by kernel_rfl) (fun _ _ _ h=>h) (Or.inl ⟨by rfl,?_⟩) hS0 ?_
 ·rintro w⟨q0,q1,q2,q3,q4⟩;go_simp
 try simp only[Act.put,qzF,qzG,qzH]
 refine xbs (i:=5) (oi:=⟨some 76,.load 23 (.tmp 75),23,_,_,none⟩) (v:=.slice ah m.heap.length ch) (by kernel_rfl) rfl rfl (by kernel_rfl) (by kernel_rfl) (by kernel_rfl) (fun _ _ _ h=>h) (Or.inl ⟨by rfl,?_⟩) hS0 ?_
 ·rintro w⟨q0,q1,q2,q3,q4⟩;go_simp
 try simp only[Act.put,qzF,qzG,qzH]
 refine xbs (i:=6) (oi:=⟨some 77,.load 27 (.tmp 8),27,_,_,none⟩) (v:=VV f.self) (by kernel_rfl) rfl rfl (by kernel_rfl) (by kernel_rfl) (by kernel_rfl) (fun _ _ _ h=>h) (Or.inl ⟨by rfl,?_⟩) hS0 ?_
 ·rintro w⟨q0,q1,q2,q3,q4⟩;go_simp
 try simp only[Act.put,qzF,qzG,qzH]
 refine xbs (i:=7) (oi:=⟨some 78,.fieldAddr 76 (.tmp 15) 1,0,_,_,none⟩) (v:=.pointer (some ⟨wr.heap.size,1,none⟩)) (by kernel_rfl) rfl rfl (by kernel_rfl) (by kernel_rfl) (by kernel_rfl) (fun _ _ _ h=>h) (Or.inl ⟨by rfl,?_⟩) hS0 ?_
 ·rintro w⟨q0,q1,q2,q3,q4⟩;go_simp
 try simp only[Act.put,qzF,qzG,qzH]
 refine xbs (i:=8) (oi:=⟨some 79,.load 3 (.tmp 78),3,_,_,none⟩) (v:=.int .i64 x.a) (by kernel_rfl) rfl rfl (by kernel_rfl) (by kernel_rfl) (by kernel_rfl) (fun _ _ _ h=>h) (Or.inl ⟨by rfl,?_⟩) hS0 ?_
 ·rintro w⟨q0,q1,q2,q3,q4⟩;go_simp
 try simp only[Act.put,qzF,qzG,qzH]
 refine xcC (rs:=[9]) (by kernel_rfl) (by simp) ?_
 intro i hi;simp only[List.mem_cons,List.not_mem_nil,or_false] at hi;subst hi;refine xmj (o:=⟨some 80,.call ⟨.value (.func 69),#[.tmp 76,.tmp 77,.tmp 79],#[23,27,3]⟩,27,_,_,none⟩) rfl (fun K' hK=>?_)
 refine xbv rfl 69 (.func 69) #[.tmp 76,.tmp 77,.tmp 79] _ rfl #[] rfl #[.slice ah m.heap.length ch,VV f.self,.int .i64 x.a] (by simp[Act.eval,Act.put]) (cf48 _ _) ?_
 refine (show Calls Tryz.prog 69 #[.slice ah m.heap.length ch,VV f.self,.int .i64 x.a] W.drew _ from (xkl m.heap _ f.self x.a _ (hM1.heap.later xaD (qzL _ W).drew)).mono ?_)
 rintro e wc ⟨rfl,hbc⟩;refine⟨_,rfl,?_⟩;generalize xcV m.heap f.self x.a=y at *;have hbW:Below W.heap.size W wc:=xah (qzL _ W).drew hbc;refine hK _ _ (fun _=>hSl _ hbW) ?_
 clear hK K'
 try simp only[Act.put,qzF,qzG,qzH]
 refine xcC (rs:=[10]) (by kernel_rfl) (by simp) ?_
 intro i hi;simp only[List.mem_cons,List.not_mem_nil,or_false] at hi;subst hi;refine xmj (o:=⟨some 81,.buildSlice 28 1 #[(0,.tmp 80)],28,_,_,none⟩) rfl (fun K' hK=>?_)
 go_simp;refine hK _ _ (fun _=>hSl _ (xah hbW (xaj _ _))) ?_
 clear hK K'
 try simp only[Act.put,qzF,qzG,qzH]
 refine xcC (rs:=[11]) (by kernel_rfl) (by simp) ?_
 intro i hi;simp only[List.mem_cons,List.not_mem_nil,or_false] at hi;subst hi;refine xmj (o:=⟨some 82,.call ⟨.builtin .append,#[.tmp 71,.tmp 81],#[28,28]⟩,28,_,_,none⟩) rfl (fun K' hK=>?_)
 have hst:ownsAt (wc.alloc (.cells #[.int .i64 y.k,.int .i64 y.n] 27)) 0 27 2 (.slice sa f.stack.length sc) f.stack.length (xal f.stack):=((hF1.later hbW).stack.alloc _);obtain⟨v',w',hrun,r1,r2,r3,r4⟩:=xaF (w:=wc.alloc (.cells #[.int .i64 y.k,.int .i64 y.n] 27)) 28 28 27 _ 2 16 Tryz.underlying28 xbW rfl (by omega) 0 f.stack.length (.slice sa f.stack.length sc) (xal f.stack) hst wc.heap.size [.int .i64 y.k,.int .i64 y.n] rfl (qzJ wc _) (by intro u hu;simp only[List.mem_cons,List.not_mem_nil,or_false] at hu;rcases hu with h | h<;>(subst h;rfl)) (by unfold maxLen;omega) (by omega) (by omega)
 obtain⟨a',cap',rfl,-⟩:=r1.form;have hbU:Below wr.heap.size wr (wc.alloc (.cells #[.int .i64 y.k,.int .i64 y.n] 27)):=xah (xah HB1.out hbW) (xaj _ _);obtain⟨d0,df⟩:=xbR HF.out hbU r4;refine xat rfl (.tmp 71) (.tmp 81) 28 rfl (.slice sa f.stack.length sc) (.slice (some ⟨wc.heap.size,0,none⟩) 1 1) (.slice a' (f.stack.length+1) cap') (by simp[Act.eval,Act.put]) (by simp[Act.eval,Act.put]) hrun ?_
 obtain⟨z0,z1,z2,z3,z4⟩:=hSl _ (xah hbW (xaj wc (.cells #[.int .i64 y.k,.int .i64 y.n] 27)));have hp5:=HF.out.pos;have hSa:w'.cell? ⟨w.heap.size+4,0,none⟩=some (.slice sa f.stack.length sc)/\w'.cell? ⟨mb,1,none⟩=some (.slice ah m.heap.length ch)/\w'.cell? ⟨w.heap.size+1,0,none⟩=some (.int .i64 f.self.k)/\w'.cell? ⟨w.heap.size+1,1,none⟩=some (.int .i64 f.self.n)/\w'.cell? ⟨wr.heap.size,1,none⟩=some (.int .i64 x.a):=⟨d0,xcD HF.out r4 (fun _=>by rw[HMa.out.tag];omega) z1,xcD HF.out r4 (fun _=>by rw[HF.out.t1];omega) z2,xcD HF.out r4 (fun _=>by rw[HF.out.t1];omega) z3,xcD HF.out r4 (fun h=>absurd h (Nat.lt_irrefl _)) z4⟩
 refine hK _ _ (fun _=>hSa) ?_
 clear hK K'
 try simp only[Act.put,qzF,qzG,qzH]
 refine xcC (rs:=[12]) (by kernel_rfl) (by simp) ?_
 intro i hi;simp only[List.mem_cons,List.not_mem_nil,or_false] at hi;subst hi;refine xmj (o:=⟨none,.store 28 (.tmp 12) (.tmp 82),0,_,_,none⟩) rfl (fun K' hK=>?_)
 go_simp;refine hK _ _ (fun h=>absurd rfl h) ?_
 clear hK K'
 try simp only[Act.put,qzF,qzG,qzH]
 refine xhV (by kernel_rfl) ?_ _
 try simp only[Act.put,qzF,qzG,qzH]
 go_wp2
 exact Or.inl ⟨rfl,xcF hX HR.out HG.out HX.out HPU.out HMa.out HF.out HL.out hbU r1 r2 r3 r4⟩
theorem br5:Br 5:=by
 intro p d T T1 w wr W mb K R av kv gk G' m f c n1 n2 n3 k x hv sv ov sa sc H hop
 intros
 rename_i hN K9 hK9;obtain⟨hX,HEn,HR,HG,HX,HMa,HF,HL,HB1,HI,hM1,hF1,hsc1,hsc2,hBl,hWl,hxb,⟨aa,ca,rfl,hca⟩,ht40⟩:=H.pre;have HOP:=hid hop;clear hop;unfold xdw;unfold sw9 at hK9
 have HPU:Hid (xaA m.heap { f with pc:=f.pc+1 } x=some (QV.mk 3 x.a)):=by
  show _=_
  have hop:x.op=5:=HOP.out;unfold xaA
  simp[hop]
 have hst0:=hF1.st;have x1:=hxb.x1;have HSt:=hid hF1.stack;have hfw:=HX.out.few
 go_wp2_with (at_builtin;refine xce rfl (.tmp 85) (.tmp 89) 28 27 _ 2 16 rfl Tryz.underlying28 xbW rfl (by omega) 0 f.stack.length (.slice sa f.stack.length sc) (xal f.stack) rfl (HSt.out.alloc _) W.heap.size rfl [.int .i64 3,.int .i64 x.a] rfl (qzJ _ _) (by intro u hu;simp only[List.mem_cons,List.not_mem_nil,or_false] at hu;rcases hu with h | h<;>(subst h;rfl)) (by unfold maxLen;omega) (by omega) (by omega) ?_;intro a' cap' w' r1 r2 r3 r4;have hbU:=xah HB1.out (xaj W (.cells #[.int .i64 3,.int .i64 x.a] 27));obtain⟨d0,df⟩:=xbR HF.out hbU r4;have R1:=hid r1;have R2:=hid r2;have R3:=hid r3;have R4:=hid r4;have HBU:=hid hbU;clear r1 r2 r3 r4 hbU)
 exact Or.inl ⟨rfl,xcF hX HR.out HG.out HX.out HPU.out HMa.out HF.out HL.out HBU.out R1.out R2.out R3.out R4.out⟩
theorem br6:Br 6:=by
 intro p d T T1 w wr W mb K R av kv gk G' m f c n1 n2 n3 k x hv sv ov sa sc H hop
 intros
 rename_i hN K9 hK9;obtain⟨hX,HEn,HR,HG,HX,HMa,HF,HL,HB1,HI,hM1,hF1,hsc1,hsc2,hBl,hWl,hxb,⟨aa,ca,rfl,hca⟩,ht40⟩:=H.pre;have HOP:=hid hop;clear hop;unfold xdw;unfold sw9 at hK9
 have HPU:Hid (xaA m.heap { f with pc:=f.pc+1 } x=some xaU):=by
  show _=_
  have hop:x.op=6:=HOP.out;unfold xaA
  simp[hop]
 have hst0:=hF1.st;have x1:=hxb.x1;have HSt:=hid hF1.stack;have hfw:=HX.out.few
 go_wp2_with (at_builtin;refine xce rfl (.tmp 93) (.tmp 95) 28 27 _ 2 16 rfl Tryz.underlying28 xbW rfl (by omega) 0 f.stack.length (.slice sa f.stack.length sc) (xal f.stack) rfl (HSt.out.alloc _) W.heap.size rfl [.int .i64 0,.int .i64 0] rfl (qzJ _ _) (by intro u hu;simp only[List.mem_cons,List.not_mem_nil,or_false] at hu;rcases hu with h | h<;>(subst h;rfl)) (by unfold maxLen;omega) (by omega) (by omega) ?_;intro a' cap' w' r1 r2 r3 r4;have hbU:=xah HB1.out (xaj W (.cells #[.int .i64 0,.int .i64 0] 27));obtain⟨d0,df⟩:=xbR HF.out hbU r4;have R1:=hid r1;have R2:=hid r2;have R3:=hid r3;have R4:=hid r4;have HBU:=hid hbU;clear r1 r2 r3 r4 hbU)
 exact Or.inl ⟨rfl,xcF hX HR.out HG.out HX.out HPU.out HMa.out HF.out HL.out HBU.out R1.out R2.out R3.out R4.out⟩
theorem br7:Br 7:=by
 intro p d T T1 w wr W mb K R av kv gk G' m f c n1 n2 n3 k x hv sv ov sa sc H hop
 intros
 rename_i hN K9 hK9;obtain⟨hX,HEn,HR,HG,HX,HMa,HF,HL,HB1,HI,hM1,hF1,hsc1,hsc2,hBl,hWl,hxb,⟨aa,ca,rfl,hca⟩,ht40⟩:=H.pre;have HOP:=hid hop;clear hop;unfold xdw;unfold sw9 at hK9;have hfw:=HX.out.few
 have HPU:Hid (xaA m.heap { f with pc:=f.pc+1 } x=some ⟨1,0⟩):=by
  show _=_
  have hop:x.op=7:=HOP.out;unfold xaA
  simp[hop]
 have hS0:=pcS (hF1.st) (hxb.x1) (PcS.mk hM1 hF1 HB1.out) (qzL _ W).drew
 go_upto_region 22 with (fail)
 go_region_law (first
  | (refine xbv rfl 67 (.func 67) #[.const (.bool false)] _ rfl #[] rfl #[.bool false] (by simp[Act.eval,Act.put]) (cf46 _ _) ?_;refine (xdZ false _).mono ?_;rintro e wc ⟨rfl,hbc⟩;refine⟨_,rfl,?_⟩;have hS1:=pcL hS0 hbc;obtain⟨hst1,hx1,hP⟩:=id hS1;have hst1a:=qzA (xaj wc (.cells #[.int .i64 1,.int .i64 0] 27)) hst1)
  | (have hst:ownsAt (wc.alloc (.cells #[.int .i64 1,.int .i64 0] 27)) 0 27 2 (.slice sa f.stack.length sc) f.stack.length (xal f.stack):=(hP.fr.stack.alloc _);obtain⟨v',w',hrun,r1,r2,r3,r4⟩:=xaF (w:=wc.alloc (.cells #[.int .i64 1,.int .i64 0] 27)) 28 28 27 _ 2 16 Tryz.underlying28 xbW rfl (by omega) 0 f.stack.length (.slice sa f.stack.length sc) (xal f.stack) hst wc.heap.size [.int .i64 1,.int .i64 0] rfl (qzJ wc _) (by intro u hu;simp only[List.mem_cons,List.not_mem_nil,or_false] at hu;rcases hu with h | h<;>(subst h;rfl)) (by unfold maxLen;omega) (by omega) (by omega);obtain⟨a',cap',rfl,-⟩:=r1.form;have hbU:Below wr.heap.size wr (wc.alloc (.cells #[.int .i64 1,.int .i64 0] 27)):=xah hP.bel (xaj _ _);obtain⟨d0,df⟩:=xbR HF.out hbU r4;have R1:=hid r1;have R2:=hid r2;have R3:=hid r3;have R4:=hid r4;have HBU:=hid hbU;clear r1 r2 r3 r4 hbU hst;refine xat rfl (.tmp 99) (.tmp 101) 28 rfl (.slice sa f.stack.length sc) (.slice (some ⟨wc.heap.size,0,none⟩) 1 1) (.slice a' (f.stack.length+1) cap') (by simp[Act.eval,Act.put]) (by simp[Act.eval,Act.put]) hrun ?_))
 all_goals (
  go_wp2
  exact Or.inl ⟨rfl,xcF hX HR.out HG.out HX.out HPU.out HMa.out HF.out HL.out HBU.out R1.out R2.out R3.out R4.out⟩)
theorem br8:Br 8:=by
 intro p d T T1 w wr W mb K R av kv gk G' m f c n1 n2 n3 k x hv sv ov sa sc H hop
 intros
 rename_i hN K9 hK9;obtain⟨hX,HEn,HR,HG,HX,HMa,HF,HL,HB1,HI,hM1,hF1,hsc1,hsc2,hBl,hWl,hxb,⟨aa,ca,rfl,hca⟩,ht40⟩:=H.pre;have HOP:=hid hop;clear hop;unfold xdw;unfold sw9 at hK9;have hfw:=HX.out.few
 have HPU:Hid (xaA m.heap { f with pc:=f.pc+1 } x=some ⟨2,0⟩):=by
  show _=_
  have hop:x.op=8:=HOP.out;unfold xaA
  simp[hop]
 have hS0:=pcS (hF1.st) (hxb.x1) (PcS.mk hM1 hF1 HB1.out) (qzL _ W).drew
 go_upto_region 24 with (fail)
 go_region_law (first
  | (refine xbv rfl 67 (.func 67) #[.const (.bool true)] _ rfl #[] rfl #[.bool true] (by simp[Act.eval,Act.put]) (cf46 _ _) ?_;refine (xdZ true _).mono ?_;rintro e wc ⟨rfl,hbc⟩;refine⟨_,rfl,?_⟩;have hS1:=pcL hS0 hbc;obtain⟨hst1,hx1,hP⟩:=id hS1;have hst1a:=qzA (xaj wc (.cells #[.int .i64 2,.int .i64 0] 27)) hst1)
  | (have hst:ownsAt (wc.alloc (.cells #[.int .i64 2,.int .i64 0] 27)) 0 27 2 (.slice sa f.stack.length sc) f.stack.length (xal f.stack):=(hP.fr.stack.alloc _);obtain⟨v',w',hrun,r1,r2,r3,r4⟩:=xaF (w:=wc.alloc (.cells #[.int .i64 2,.int .i64 0] 27)) 28 28 27 _ 2 16 Tryz.underlying28 xbW rfl (by omega) 0 f.stack.length (.slice sa f.stack.length sc) (xal f.stack) hst wc.heap.size [.int .i64 2,.int .i64 0] rfl (qzJ wc _) (by intro u hu;simp only[List.mem_cons,List.not_mem_nil,or_false] at hu;rcases hu with h | h<;>(subst h;rfl)) (by unfold maxLen;omega) (by omega) (by omega);obtain⟨a',cap',rfl,-⟩:=r1.form;have hbU:Below wr.heap.size wr (wc.alloc (.cells #[.int .i64 2,.int .i64 0] 27)):=xah hP.bel (xaj _ _);obtain⟨d0,df⟩:=xbR HF.out hbU r4;have R1:=hid r1;have R2:=hid r2;have R3:=hid r3;have R4:=hid r4;have HBU:=hid hbU;clear r1 r2 r3 r4 hbU hst;refine xat rfl (.tmp 105) (.tmp 107) 28 rfl (.slice sa f.stack.length sc) (.slice (some ⟨wc.heap.size,0,none⟩) 1 1) (.slice a' (f.stack.length+1) cap') (by simp[Act.eval,Act.put]) (by simp[Act.eval,Act.put]) hrun ?_))
 all_goals (
  go_wp2
  exact Or.inl ⟨rfl,xcF hX HR.out HG.out HX.out HPU.out HMa.out HF.out HL.out HBU.out R1.out R2.out R3.out R4.out⟩)
theorem br9:Br 9:=by
 intro p d T T1 w wr W mb K R av kv gk G' m f c n1 n2 n3 k x hv sv ov sa sc H hop
 intros
 rename_i hN K9 hK9;obtain⟨hX,HEn,HR,HG,HX,HMa,HF,HL,HB1,HI,hM1,hF1,hsc1,hsc2,hBl,hWl,hxb,⟨aa,ca,rfl,hca⟩,ht40⟩:=H.pre;have HOP:=hid hop;clear hop;unfold xdw;unfold sw9 at hK9;have hneed:=HX.out.need
 have hnx:0<f.stack.length:=by
  have hop:x.op=9:=HOP.out;have hn:xaN x k=⟨1,-1,[(k:Int)+1]⟩:=by unfold xaN;rw[if_pos (by omega)]
  rw[hn] at hneed;simp only[] at hneed;omega
 go_wp2_with fail;refine (xem hF1 hnx).mono ?_;rintro e w2 ⟨rfl,⟨st',hF2⟩,hK2⟩;have HF2:=hid hF2;have HK2:=hid hK2;clear hF1 hF2 hK2 hM1;go_wp2
 exact Or.inl ⟨rfl,xnX hX HR.out HG.out HX.out (Or.inl HOP.out) HMa.out HL.out HB1.out HF2.out HK2.out⟩
theorem br10:Br 10:=by
 intro p d T T1 w wr W mb K R av kv gk G' m f c n1 n2 n3 k x hv sv ov sa sc H hop
 intros
 rename_i hN K9 hK9;obtain⟨hX,HEn,HR,HG,HX,HMa,HF,HL,HB1,HI,hM1,hF1,hsc1,hsc2,hBl,hWl,hxb,⟨aa,ca,rfl,hca⟩,ht40⟩:=H.pre;have HOP:=hid hop;clear hop;unfold xdw;unfold sw9 at hK9;have hneed:=HX.out.need
 have hnx:0<f.stack.length:=by
  have hop:x.op=10:=HOP.out;have hn:xaN x k=⟨1,1,[(k:Int)+1]⟩:=by unfold xaN;rw[if_neg (by omega),if_pos hop]
  rw[hn] at hneed;simp only[] at hneed;omega
 have hfw:=HX.out.few;have hp5:=hF1.pos;go_wp2_with fail;refine (xem hF1 hnx).mono ?_;rintro e w2 ⟨rfl,⟨st',hF2⟩,hK2⟩;dsimp only;obtain⟨sb,sd,rfl,hsd1,hsd2⟩:=hF2.stack.form;unfold maxLen at hsd2;have HF2:=hid hF2;have HK2:=hid hK2;have hbx:=xaj w2 (.cells #[.int .i64 f.top.k,.int .i64 f.top.n] 27);have hst2:=(hF2.later hbx).st;have b0:(w2.alloc (.cells #[.int .i64 f.top.k,.int .i64 f.top.n] 27)).cell? ⟨w2.heap.size,0,none⟩=some (.int .i64 f.top.k):=xaa _ _ _ _ rfl 0;have b1:(w2.alloc (.cells #[.int .i64 f.top.k,.int .i64 f.top.n] 27)).cell? ⟨w2.heap.size,1,none⟩=some (.int .i64 f.top.n):=xaa _ _ _ _ rfl 1
 have HF3:=hid (hF2.later hbx);have HBX:=hid hbx;clear hF1 hF2 hK2 hM1 hbx
 go_upto_region 29 with (fail)
 generalize (w2.alloc (.cells #[.int .i64 f.top.k,.int .i64 f.top.n] 27))=V at *;have hpl:f.pop.stack.length+1=f.stack.length:=by unfold Fr.pop;simp;omega
 go_wp2_with (at_builtin;refine xev rfl (.tmp 117) (.tmp 120) 28 27 _ 2 16 rfl Tryz.underlying28 xbW rfl (by omega) 0 f.pop.stack.length (.slice sb f.pop.stack.length sd) (xal f.pop.stack) rfl (HF3.out.stack.alloc _) V.heap.size rfl [.int .i64 f.top.k,.int .i64 f.top.n,.int .i64 f.top.k,.int .i64 f.top.n] rfl (qzJ _ _) (by intro u hu;simp only[List.mem_cons,List.not_mem_nil,or_false] at hu;rcases hu with h | h | h | h<;>(subst h;rfl)) (by unfold maxLen;omega) (by omega) (by omega) ?_;intro a' cap' w' r1 r2 r3 r4;have hbU:=xah HBX.out (xaj V (.cells #[.int .i64 f.top.k,.int .i64 f.top.n,.int .i64 f.top.k,.int .i64 f.top.n] 27));obtain⟨d0,df⟩:=xbR HF2.out hbU r4;have R1:=hid r1;have R2:=hid r2;have R3:=hid r3;have R4:=hid r4;have HBU:=hid hbU;clear r1 r2 r3 r4 hbU)
 exact Or.inl ⟨rfl,xnw hX HR.out HG.out HX.out HOP.out HMa.out HL.out hnx HB1.out HF2.out HK2.out HBU.out R1.out R2.out R3.out R4.out⟩
theorem br11:Br 11:=by
 intro p d T T1 w wr W mb K R av kv gk G' m f c n1 n2 n3 k x hv sv ov sa sc H hop
 intros
 rename_i hN K9 hK9;obtain⟨hX,HEn,HR,HG,HX,HMa,HF,HL,HB1,HI,hM1,hF1,hsc1,hsc2,hBl,hWl,hxb,⟨aa,ca,rfl,hca⟩,ht40⟩:=H.pre;have HOP:=hid hop;clear hop;unfold xdw;unfold sw9 at hK9;obtain⟨ha0,ha1⟩:=HX.out.temp (Or.inr HOP.out);obtain⟨j,hj⟩:∃ j:Nat,x.a=(j:Int):=⟨x.a.toNat,by omega⟩
 have hl1:=HL.out.2.2.1;have hjl:j<f.temps.length:=by omega
 have hnx:0<f.stack.length:=xi1 HX.out (by have hop:x.op=11:=HOP.out;unfold xaN;rw[if_pos (by omega)])
 have x1:=hxb.x1;have hbD:Below W.heap.size W W.drew:=(qzL _ W).drew;have hFt:=HF.out.t4W (U:=W.drew) (xah HB1.out hbD);have hp5:=hFt.pos;have hj1:(j:Int)<(n2:Int):=by omega
 have hj0:(0:Int)<=(j:Int):=by omega
 have HJ:=hid hj;rw[hj] at x1;clear hM1 hF1 hj ha0 ha1
 go_upto_region 31 with (fail)
 go_region_law (refine xbv rfl 68 (.tmp 127) #[] _ rfl #[.pointer (some ⟨w.heap.size+4,0,none⟩)] (by simp[Act.eval,Act.put]) #[] (by simp) (cf47 _ _) ?_;refine (show Calls Tryz.prog 68 #[.pointer (some ⟨w.heap.size+4,0,none⟩)] W.drew _ from (xem hFt hnx).mono ?_);rintro e w2 ⟨rfl,⟨st',hF2⟩,hK2⟩;refine⟨_,rfl,?_⟩;have hx2:=hK2.cell (show W.drew.cell? ⟨wr.heap.size,1,none⟩=some (.int .i64 (j:Int)) from x1) (by rw[xav (qzC _)];omega);obtain⟨y0,y1⟩:=xeL hF2.tm (show f.pop.temps[j]?=some f.temps[j] by show f.temps[j]?=_;simp[hjl]);have yf:=xam hF2.tm;have HF2:=hid hF2;have HK2:=hid hK2;clear hF2 hK2)
 all_goals (
  go_wp2
  exact Or.inl ⟨rfl,xnj hX HR.out HG.out HX.out HOP.out HJ.out HMa.out HL.out (xah HB1.out hbD) HF2.out HK2.out⟩)
theorem br12:Br 12:=by
 intro p d T T1 w wr W mb K R av kv gk G' m f c n1 n2 n3 k x hv sv ov sa sc H hop
 intros
 rename_i hN K9 hK9;obtain⟨hX,HEn,HR,HG,HX,HMa,HF,HL,HB1,HI,hM1,hF1,hsc1,hsc2,hBl,hWl,hxb,⟨aa,ca,rfl,hca⟩,ht40⟩:=H.pre;have HOP:=hid hop;clear hop;unfold xdw;unfold sw9 at hK9;obtain⟨hI,hW,hFo,hPl⟩:=HI.out;have ha0:=xnv hPl HX.out (Or.inr HOP.out);obtain⟨j,hj⟩:∃ j:Nat,x.a=(j:Int):=⟨x.a.toNat,by omega⟩
 have hnx:0<f.stack.length:=xi1 HX.out (by have hop:x.op=12:=HOP.out;unfold xaN;rw[if_pos (by omega)])
 have x1:=hxb.x1;have v0:=hF1.v0;have v1:=hF1.v1;have hbD:Below W.heap.size W W.drew:=(qzL _ W).drew;have hFt:=HF.out.t4W (U:=W.drew) (xah HB1.out hbD);have hMt:=HMa.out.t4W (U:=W.drew) (xah HB1.out hbD);have hp5:=hFt.pos;have hws:=hFo.self;have hhl:m.heap.length<=1000:=by have:=hI.heap.len;omega
 have HJ:=hid hj;rw[hj] at x1;clear hM1 hF1 hj ha0 hI hW hFo hPl
 go_upto_region 33 with (fail)
 go_region_law (first
  | (refine xbv rfl 68 (.tmp 136) #[] _ rfl #[.pointer (some ⟨w.heap.size+4,0,none⟩)] (by simp[Act.eval,Act.put]) #[] (by simp) (cf47 _ _) ?_;refine (show Calls Tryz.prog 68 #[.pointer (some ⟨w.heap.size+4,0,none⟩)] W.drew _ from (xem hFt hnx).mono ?_);rintro e w2 ⟨rfl,⟨st',hF2⟩,hK2⟩;refine⟨_,rfl,?_⟩;have hx2:=hK2.cell (show W.drew.cell? ⟨wr.heap.size,1,none⟩=some (.int .i64 (j:Int)) from x1) (by rw[xav (qzC _)];omega);have z0:w2.cell? ⟨w.heap.size+1,0,none⟩=some (.int .i64 f.self.k):=hF2.v0;have z1:w2.cell? ⟨w.heap.size+1,1,none⟩=some (.int .i64 f.self.n):=hF2.v1;have hM2:=hMt.keep (.refl _ _) hK2 (by omega) (by omega) (by omega) (by omega);have HF2:=hid hF2;have HK2:=hid hK2;clear hF2 hK2)
  | (refine xbv rfl 70 (.func 70) #[.tmp 132,.tmp 133,.tmp 135,.tmp 137] _ rfl #[] rfl #[.pointer (some ⟨mb,0,none⟩),VV f.self,.int .i64 (j:Int),VV f.top] (by simp[Act.eval,Act.put]) (cf49 _ _) ?_;refine (show Calls Tryz.prog 70 #[.pointer (some ⟨mb,0,none⟩),VV f.self,.int .i64 (j:Int),VV f.top] w2 _ from (xlH hM2 f.self j f.top hws hhl).mono ?_);rintro e w3 ⟨rfl,⟨T3,hv3,hE3,hM3⟩,hK3⟩;refine⟨_,rfl,?_⟩;have HE3:=hid hE3;have HM3:=hid hM3;have HK3:=hid hK3;clear hE3 hM3 hK3))
 all_goals (
  go_wp2
  exact Or.inl ⟨rfl,xnA hX HR.out HG.out HX.out HOP.out HJ.out HL.out (xah HB1.out hbD) HF2.out HK2.out HE3.out HM3.out HK3.out⟩)
end Go.Proofs.YtapbeiccodnniaaGreat
