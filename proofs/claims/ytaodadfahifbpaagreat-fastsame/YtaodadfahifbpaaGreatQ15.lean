/- A part. -/
import Derived.Test.YtaodadfahifbpaaGreatQ14
namespace Go.Proofs.YtaodadfahifbpaaGreat
open Go.ChangeShapes Go.WideShapes Go.ChangeAt Go.RowKit
set_option linter.unusedSimpArgs false
set_option linter.unusedVariables false
set_option maxHeartbeats 8000000
set_option maxRecDepth 100000
theorem br3:Br 3:=by
 intro p d T T1 w wr W mb K R av kv gk G' m f c n1 n2 n3 k x hv sv ov sa sc H hop
 intros
 rename_i hN K9 hK9;obtain⟨hX,HEn,HR,HG,HX,HMa,HF,HL,HB1,HI,hM1,hF1,hsc1,hsc2,hBl,hWl,hxb,⟨aa,ca,rfl,hca⟩,ht40⟩:=H.pre;have HOP:=hid hop;clear hop;unfold xh4;unfold sw9 at hK9;have hst0:=hF1.st;have x1:=hxb.x1;have hfw:=HX.out.few;obtain⟨ha0,ha1⟩:=HX.out.temp (Or.inl HOP.out);obtain⟨j,hj⟩:∃ j:Nat,x.a=(j:Int):=⟨x.a.toNat,by omega⟩
 have hl1:=HL.out.2.2.1;have hjl:j<f.temps.length:=by omega
 have hy:f.temps[j]?=some f.temps[j]:=by simp[hjl]
 have HPU:Hid (xao m.heap { f with pc:=f.pc+1 } x=some f.temps[j]):=by
  show _=_
  have hop:x.op=3:=HOP.out;unfold xao xaM
  simp[hop,hj,hjl]
  omega
 generalize f.temps[j]=y at *;obtain⟨y0,y1⟩:=xfz hF1.tm hy;have hj1:(j:Int)<(n2:Int):=by omega
 have hj0:(0:Int)<=(j:Int):=by omega
 rw[hj] at x1;clear hy ha0 ha1 hj;have hst0a:=qzA (xak W (.cells #[.int .i64 y.k,.int .i64 y.n] 27)) hst0;have hst:ownsAt (W.alloc (.cells #[.int .i64 y.k,.int .i64 y.n] 27)).drew 0 27 2 (.slice sa f.stack.length sc) f.stack.length (xam f.stack):=(hF1.stack.alloc _).keep fun g hg=>rfl
 obtain⟨v',w',hrun,r1,r2,r3,r4⟩:=xaL (w:=(W.alloc (.cells #[.int .i64 y.k,.int .i64 y.n] 27)).drew) 28 28 27 _ 2 16 Tryz.underlying28 xcg rfl (by omega) 0 f.stack.length (.slice sa f.stack.length sc) (xam f.stack) hst W.heap.size [.int .i64 y.k,.int .i64 y.n] rfl (qzJ W _) (by intro u hu;simp only[List.mem_cons,List.not_mem_nil,or_false] at hu;rcases hu with h | h<;>(subst h;rfl)) (by unfold maxLen;omega) (by omega) (by omega)
 obtain⟨a',cap',rfl,-⟩:=r1.form;have hbU:Below wr.heap.size wr (W.alloc (.cells #[.int .i64 y.k,.int .i64 y.n] 27)).drew:=xaf HB1.out (xak _ _).drew;obtain⟨d0,df⟩:=xb8 HF.out hbU r4;have R1:=hid r1;have R2:=hid r2;have R3:=hid r3;have R4:=hid r4;have HBU:=hid hbU;clear r1 r2 r3 r4 hbU hst hM1 hF1
 go_upto_region 14 with (fail)
 go_region_law (refine xaw rfl (.tmp 61) (.tmp 67) 28 rfl (.slice sa f.stack.length sc) (.slice (some ⟨W.heap.size,0,none⟩) 1 1) (.slice a' (f.stack.length+1) cap') (by simp[Act.eval,Act.put]) (by simp[Act.eval,Act.put]) hrun ?_)
 all_goals (
  go_wp2
  exact Or.inl ⟨rfl,xcW hX HR.out HG.out HX.out HPU.out HMa.out HF.out HL.out HBU.out R1.out R2.out R3.out R4.out⟩)
set_option maxRecDepth 8000
section
variable {p:Rp} {d:Nat} {T T1 T2:Nat->Nat} {w wr w2:World} {mb K:Nat} {R:Mc RSt × QV × Int} {av kv:Value} {gk:Nat} {at' at2:Value} {m:Mc RSt} {f:Fr}
variable {c:Int} {n1 n2 n3 G' k:Nat} {x:QI} {hv sv ov st st':Value} {U w':World}
theorem xqf (hX:Rx p)(hR:BdR p d T w mb K R av kv gk at' T1 m f 0 wr)(hg:gk=G'+1)(hx:NxOk f k x)(hop:x.op=10)(hM:RMac p T1 wr mb m (20-(d:Int)) 0 hv sv ov)(hL:xj9 c n1 n2 n3 f)(hn:0<f.stack.length){W:World}(hW:Below wr.heap.size wr W){W2:World}(hF:RF T1 K W2 w.heap.size f.pop av kv st)(hK:Kp (fun t=>t=K\/t=K+2) T1 W W2)(hU:Below W2.heap.size W2 U)
  (r1:ownsAt w' 0 27 2 st' (f.pop.stack.length+2) (xam f.pop.stack++[.int .i64 f.top.k,.int .i64 f.top.n,.int .i64 f.top.k,.int .i64 f.top.n])) (r2:st'.ownBlock=st.ownBlock\/∃ g,st'.ownBlock=some g/\U.heap.size<=g) (r3:Below 0 U w') (r4:∀ b,b<U.heap.size->some b≠st.ownBlock->w'.heap[b]?=U.heap[b]?) :
  BdX p d T w mb K R av kv c n1 n2 n3 G' (.int .i64 ((k:Int)+1)) (w'.setCell ⟨w.heap.size+4,0,none⟩ st'):=by
 have hp:=hF.pos;have hfew:=hx.few;have hpl:f.pop.stack.length+1=f.stack.length:=by unfold Fr.pop;simp;omega
 obtain⟨⟨T2,e1,e2⟩,e3⟩:=hF.pushed (vs:=[f.top,f.top]) hU (by simp;omega) (by simpa [xam] using r1) r2 r3 r4
 have hstk:f.pop.stack++[f.top,f.top]=f.stack++[f.top]:=by
  have:f.stack=f.pop.stack++[f.top]:=by
   unfold Fr.pop Fr.top xaQ xaM;simp only;rw[if_neg (by omega)]
   have hne:f.stack≠[]:=by intro h;rw[h] at hn;simp at hn
   have hl:((f.stack.length:Int)-1-0).toNat=f.stack.length-1:=by omega
   rw[hl,List.getElem?_eq_getElem (by omega)]
   simp only[Option.getD_some];rw[← List.getLast_eq_getElem hne]
   exact (List.dropLast_concat_getLast hne).symm
  conv=>rhs;rw[this]
  simp
 have hr:xaj (xa4 p.E d) p.E d m { f with pc:=f.pc+1 } f.pc x=(m,({ f with pc:=f.pc+1 }:Fr).push f.top,0):=by
  rw[xbX _ _ (by omega)];unfold xcG;rw[if_neg (by omega),if_pos hop];rfl
 have kW:Kp (fun t=>t=K\/t=K+2) T1 wr W2:=(Kp.of_below hW).trans (.refl _ _) hK
 have kk:Kp (fun t=>t=K\/t=K+2) T1 wr (w'.setCell ⟨w.heap.size+4,0,none⟩ st'):=kW.trans (.refl _ _) e3
 have eE:Ext T1 T2 wr:=fun b hb=>e1 b (qzE hb kW.size)
 have hf2:RF T2 K (w'.setCell ⟨w.heap.size+4,0,none⟩ st') w.heap.size { f with stack:=f.stack++[f.top] } av kv st':=by rw[← hstk];exact e2
 exact xcz hX hR hg hx (by omega) hr eE (xd0 kk fun t ht=>by omega) (hM.keep eE kk (by omega) (by omega) (by omega) (by omega)) (fun _=>⟨_,hf2.at _⟩) (fun _=>by show f.pc+1=_;rw[hx.pc]) (fun _=>hL)
theorem xkN (hx:NxOk f k x)(h:xaS x k=⟨1,-1,[(k:Int)+1]⟩):0<f.stack.length:=by
 have:=hx.need;rw[h] at this;simp only[] at this
 omega
theorem RF.t4W (h:RF T1 K wr w.heap.size f av kv st)(hb:Below wr.heap.size wr U):RF (xaF T1 wr 4) K U w.heap.size f av kv st:=h.keep (S:=fun _=>False) (xaq T1 wr 4) (.of_below hb) id id id id id
theorem RMac.t4W {err:Int}(h:RMac p T1 wr mb m (20-(d:Int)) err hv sv ov)(hb:Below wr.heap.size wr U):RMac p (xaF T1 wr 4) U mb m (20-(d:Int)) err hv sv ov:=h.keep (S:=fun _=>False) (xaq T1 wr 4) (.of_below hb) id id id id
theorem kp4 {S:Nat->Prop}{W W2:World}(hb:Below wr.heap.size wr W)(k:Kp S (xaF T1 wr 4) W W2):Kp S T1 wr W2:=by
 refine (Kp.of_below hb).trans (T':=xaF T1 wr 4) (xaq T1 wr 4) k
theorem xqB (hX:Rx p)(hR:BdR p d T w mb K R av kv gk at' T1 m f 0 wr)(hg:gk=G'+1)(hx:NxOk f k x)(hop:x.op=11){j:Nat}(hj:x.a=(j:Int))(hM:RMac p T1 wr mb m (20-(d:Int)) 0 hv sv ov)(hL:xj9 c n1 n2 n3 f){W W2:World}(hW:Below wr.heap.size wr W)(hF:RF (xaF T1 wr 4) K W2 w.heap.size f.pop av kv st)(hK:Kp (fun t=>t=K\/t=K+2) (xaF T1 wr 4) W W2) :
  BdX p d T w mb K R av kv c n1 n2 n3 G' (.int .i64 ((k:Int)+1)) ((W2.setCell ⟨w.heap.size+3,j*2,none⟩ (.int .i64 f.top.k)).setCell ⟨w.heap.size+3,j*2+1,none⟩ (.int .i64 f.top.n)):=by
 have hp:=hF.pos;obtain⟨e1,e2⟩:=hF.temped j f.top
 have hr:xaj (xa4 p.E d) p.E d m { f with pc:=f.pc+1 } f.pc x=(m,{ ({ f with pc:=f.pc+1 }:Fr).pop with temps:=f.temps.set j f.top },0):=by
  rw[xbX _ _ (by omega)];unfold xcG;rw[if_neg (by omega),if_neg (by omega),if_pos hop]
  unfold xaW;rw[if_neg (by omega),hj];simp;rfl
 have k1:=(hK.mono (S':=fun t=>t=K\/t=K+1\/t=K+2) fun t h=>by omega).trans (.refl _ _) (e2.mono (S':=fun t=>t=K\/t=K+1\/t=K+2) fun t h=>by omega)
 have k2:=kp4 hW k1
 exact xcz hX hR hg hx (by omega) hr (xaq T1 wr 4) (xd0 k2 fun t ht=>by omega) (hM.keep (xaq T1 wr 4) k2 (by omega) (by omega) (by omega) (by omega)) (fun _=>⟨_,e1.at _⟩) (fun _=>by show f.pc+1=_;rw[hx.pc]) (fun _=>⟨hL.1,hL.2.1,by show (f.temps.set j f.top).length=_;rw[List.length_set];exact hL.2.2.1,hL.2.2.2⟩)
theorem xpz (hX:Rx p)(hR:BdR p d T w mb K R av kv gk at' T1 m f 0 wr)(hg:gk=G'+1)(hx:NxOk f k x)(hop:x.op=12){j:Nat}(hj:x.a=(j:Int))(hL:xj9 c n1 n2 n3 f){W W2 W3:World}(hW:Below wr.heap.size wr W)(hF:RF (xaF T1 wr 4) K W2 w.heap.size f.pop av kv st)(hK:Kp (fun t=>t=K\/t=K+2) (xaF T1 wr 4) W W2){T3:Nat->Nat}{hv3:Value}(hE3:Ext (xaF T1 wr 4) T3 W2)(hM3:RMac p T3 W3 mb { m with heap:=xaX m.heap f.self j f.top } (20-(d:Int)) 0 hv3 sv ov)(hK3:Kp (fun t=>t=1) (xaF T1 wr 4) W2 W3) :
  BdX p d T w mb K R av kv c n1 n2 n3 G' (.int .i64 ((k:Int)+1)) W3:=by
 have hp:=hF.pos
 have hr:xaj (xa4 p.E d) p.E d m { f with pc:=f.pc+1 } f.pc x=({ m with heap:=xaX m.heap f.self j f.top },({ f with pc:=f.pc+1 }:Fr).pop,0):=by
  rw[xbX _ _ (by omega)];unfold xcG;rw[if_neg (by omega),if_neg (by omega),if_neg (by omega),if_pos hop,hj];rfl
 have k1:Kp (All K) (xaF T1 wr 4) W W3:=(xd0 hK fun t ht=>by omega).trans (.refl _ _) (xd0 hK3 fun t ht=>by omega)
 have eE:Ext T1 T3 wr:=fun b hb=>(hE3 b (by have:=hW.size;have:=hK.size;omega)).trans (xaq T1 wr 4 b hb)
 exact xcz hX hR hg hx (by omega) hr eE (kp4 hW k1) hM3 (fun _=>⟨_,(hF.keep hE3 hK3 (by omega) (by omega) (by omega) (by omega) (by omega)).at _⟩) (fun _=>by show f.pc+1=_;rw[hx.pc]) (fun _=>hL)
theorem xoh {S n:Int}{mt:QM}(h:xgb S n mt x=0)(ho:x.op=4\/x.op=12):0<=x.a:=by
 unfold xgb at h
 split at h
 ·cases h
 ·rename_i h1
  split at h
  ·cases h
  ·rename_i hra
   rcases ho with ho | ho<;>(simp[raE,ho,inR] at hra;omega)
theorem xp3 (hP:PlOk f)(hx:NxOk f k x)(ho:x.op=4\/x.op=12):0<=x.a:=by
 obtain⟨S,n,hn⟩:=hP.nums
 exact xoh (hn x (List.mem_of_getElem? hx.here)) ho
theorem xnU (hX:Rx p)(hR:BdR p d T w mb K R av kv gk at' T1 m f 0 wr)(hg:gk=G'+1)(hx:NxOk f k x)(hop:x.op=16)(h1:f.top.k≠1)(h2:f.top.k≠2){T2:Nat->Nat}{W2:World}(hE:Ext T1 T2 wr)(hK:Kp (All K) T1 wr W2)(hM:RMac p T2 W2 mb m (20-(d:Int)) 11 hv sv ov) :
  BdX p d T w mb K R av kv c n1 n2 n3 G' (.int .i64 ((k:Int)+1)) W2:=by
 have hr:xaj (xa4 p.E d) p.E d m { f with pc:=f.pc+1 } f.pc x=(m,{ f with pc:=f.pc+1 },11):=by
  rw[xbX _ _ (by omega)];unfold xcG;rw[if_neg (by omega),if_neg (by omega),if_neg (by omega),if_neg (by omega),if_neg (by omega),if_neg (by omega),if_neg (by omega),if_pos hop]
  unfold xbz
  show (if f.top.k=2 then _ else if f.top.k=1 then _ else _)=_
  rw[if_neg (show ¬ f.top.k=2 from h2),if_neg (show ¬ f.top.k=1 from h1)]
 exact xcz hX hR hg hx (by omega) hr hE hK hM (fun h=>by cases h) (fun h=>by cases h) (fun h=>by cases h)
theorem xpG (hX:Rx p)(hR:BdR p d T w mb K R av kv gk at' T1 m f 0 wr)(hg:gk=G'+1)(hx:NxOk f k x)(hop:x.op=16)(h2:f.top.k=2)(hL:xj9 c n1 n2 n3 f){T2:Nat->Nat}{W2:World}(hE:Ext T1 T2 wr)(hK:Kp (All K) T1 wr W2)(hM:RMac p T2 W2 mb m (20-(d:Int)) 0 hv sv ov)(hF:RF T2 K W2 w.heap.size f.pop av kv st) :
  BdX p d T w mb K R av kv c n1 n2 n3 G' (.int .i64 ((k:Int)+1)) W2:=by
 have hr:xaj (xa4 p.E d) p.E d m { f with pc:=f.pc+1 } f.pc x=(m,({ f with pc:=f.pc+1 }:Fr).pop,0):=by
  rw[xbX _ _ (by omega)];unfold xcG;rw[if_neg (by omega),if_neg (by omega),if_neg (by omega),if_neg (by omega),if_neg (by omega),if_neg (by omega),if_neg (by omega),if_pos hop]
  unfold xbz
  show (if f.top.k=2 then _ else if f.top.k=1 then _ else _)=_
  rw[if_pos (show f.top.k=2 from h2)]
 exact xcz hX hR hg hx (by omega) hr hE hK hM (fun _=>⟨_,hF.at _⟩) (fun _=>by show f.pc+1=_;rw[hx.pc]) (fun _=>hL)
theorem xnu (hop:x.op=16)(h1:f.top.k=1)(hx:NxOk f k x):xaj (xa4 p.E d) p.E d m { f with pc:=f.pc+1 } f.pc x=xaV m ({ f with pc:=f.pc+1 }:Fr).pop k x.a:=by
 rw[xbX _ _ (by omega)];unfold xcG;rw[if_neg (by omega),if_neg (by omega),if_neg (by omega),if_neg (by omega),if_neg (by omega),if_neg (by omega),if_neg (by omega),if_pos hop]
 unfold xbz
 show (if f.top.k=2 then _ else if f.top.k=1 then _ else _)=_
 rw[if_neg (show ¬ f.top.k=2 by omega),if_pos (show f.top.k=1 from h1),hx.pc]
theorem xl6 (hop:x.op=15)(hx:NxOk f k x):xaj (xa4 p.E d) p.E d m { f with pc:=f.pc+1 } f.pc x=xaV m { f with pc:=f.pc+1 } k x.a:=by
 rw[xbX _ _ (by omega)];unfold xcG;rw[if_neg (by omega),if_neg (by omega),if_neg (by omega),if_neg (by omega),if_neg (by omega),if_neg (by omega),if_pos hop,hx.pc]
theorem xcU (hF:RF T1 K wr w.heap.size f av kv st)(r4:∀ b,b<U.heap.size->some b≠st.ownBlock->w'.heap[b]?=U.heap[b]?){b o:Nat}{v:Value}(ht:b<wr.heap.size->T1 b≠K+2)(h:U.cell? ⟨b,o,none⟩=some v):w'.cell? ⟨b,o,none⟩=some v:=by
 have hl:=World.block_lt_of_cell? U ⟨b,o,none⟩ h;have hne:some b≠st.ownBlock:=fun e=>ht (hF.stack.lt b e.symm).2 (hF.stag b e.symm)
 unfold World.cell? at h ⊢;rw[r4 b hl hne]
 exact h
end
set_option maxRecDepth 100000
theorem br4:Br 4:=by
 intro p d T T1 w wr W mb K R av kv gk G' m f c n1 n2 n3 k x hv sv ov sa sc H hop
 intros
 rename_i hN K9 hK9;obtain⟨hX,HEn,HR,HG,HX,HMa,HF,HL,HB1,HI,hM1,hF1,hsc1,hsc2,hBl,hWl,hxb,⟨aa,ca,rfl,hca⟩,ht40⟩:=H.pre;have HOP:=hid hop;clear hop;unfold xh4;unfold sw9 at hK9;have hfw:=HX.out.few
 have HPU:Hid (xao m.heap { f with pc:=f.pc+1 } x=some (xcF m.heap f.self x.a)):=by
  show _=_
  have hop:x.op=4:=HOP.out;unfold xao
  simp[hop]
 obtain⟨ah,ch,rfl,-⟩:=id hM1.heap;have hSl:∀ w',Below W.heap.size W w'->w'.cell? ⟨w.heap.size+4,0,none⟩=some (.slice sa f.stack.length sc)/\w'.cell? ⟨mb,1,none⟩=some (.slice ah m.heap.length ch)/\w'.cell? ⟨w.heap.size+1,0,none⟩=some (.int .i64 f.self.k)/\w'.cell? ⟨w.heap.size+1,1,none⟩=some (.int .i64 f.self.n)/\w'.cell? ⟨wr.heap.size,1,none⟩=some (.int .i64 x.a):=fun w' hb=>⟨qzA hb hF1.st,qzA hb hM1.c1,qzA hb hF1.v0,qzA hb hF1.v1,qzA hb hxb.x1⟩
 have hS0:=hSl _ (qzL _ W).drew
 go_upto_region 16 with (fail)
 refine xgK (S:=fun w'=>w'.cell? ⟨w.heap.size+4,0,none⟩=some (.slice sa f.stack.length sc)/\w'.cell? ⟨mb,1,none⟩=some (.slice ah m.heap.length ch)/\w'.cell? ⟨w.heap.size+1,0,none⟩=some (.int .i64 f.self.k)/\w'.cell? ⟨w.heap.size+1,1,none⟩=some (.int .i64 f.self.n)/\w'.cell? ⟨wr.heap.size,1,none⟩=some (.int .i64 x.a)) 12 (by kernel_rfl) ?_
 refine xbI (i:=0) (oi:=⟨some 71,.load 28 (.tmp 12),28,_,_,none⟩) (v:=.slice sa f.stack.length sc) (by kernel_rfl) rfl rfl (by kernel_rfl) (by kernel_rfl) (by kernel_rfl) (fun _ _ _ h=>h) (Or.inl ⟨by rfl,?_⟩) hS0 ?_
 ·rintro w⟨q0,q1,q2,q3,q4⟩;go_simp
 try simp only[Act.put,qzF,qzG,qzH]
 refine xbI (i:=1) (oi:=⟨some 72,.move (.tmp 0),42,_,_,none⟩) (v:=.pointer (some ⟨mb,0,none⟩)) (by kernel_rfl) rfl rfl (by kernel_rfl) (by kernel_rfl) (by kernel_rfl) (fun _ _ _ h=>h) (Or.inl ⟨by rfl,?_⟩) hS0 ?_
 ·rintro w⟨q0,q1,q2,q3,q4⟩;go_simp
 try simp only[Act.put,qzF,qzG,qzH]
 refine xbI (i:=2) (oi:=⟨some 73,.nilCheck (.tmp 72),0,_,_,none⟩) (v:=.pointer (some ⟨mb,0,none⟩)) (by kernel_rfl) rfl rfl (by kernel_rfl) (by kernel_rfl) (by kernel_rfl) (fun _ _ _ h=>h) (Or.inl ⟨by rfl,?_⟩) hS0 ?_
 ·rintro w⟨q0,q1,q2,q3,q4⟩;go_simp
 try simp only[Act.put,qzF,qzG,qzH]
 refine xbI (i:=3) (oi:=⟨some 74,.fieldAddr 91 (.tmp 73) 0,0,_,_,none⟩) (v:=.pointer (some ⟨mb,0,none⟩)) (by kernel_rfl) rfl rfl (by kernel_rfl) (by kernel_rfl) (by kernel_rfl) (fun _ _ _ h=>h) (Or.inl ⟨by rfl,?_⟩) hS0 ?_
 ·rintro w⟨q0,q1,q2,q3,q4⟩;go_simp
 try simp only[Act.put,qzF,qzG,qzH]
 refine xbI (i:=4) (oi:=⟨some 75,.fieldAddr 25 (.tmp 74) 1,0,_,_,none⟩) (v:=.pointer (some ⟨mb,1,none⟩)) (by kernel_rfl) rfl rfl (by kernel_rfl) (by kernel_rfl) (by kernel_rfl) (fun _ _ _ h=>h) (Or.inl ⟨by rfl,?_⟩) hS0 ?_
 ·rintro w⟨q0,q1,q2,q3,q4⟩;go_simp
 try simp only[Act.put,qzF,qzG,qzH]
 refine xbI (i:=5) (oi:=⟨some 76,.load 23 (.tmp 75),23,_,_,none⟩) (v:=.slice ah m.heap.length ch) (by kernel_rfl) rfl rfl (by kernel_rfl) (by kernel_rfl) (by kernel_rfl) (fun _ _ _ h=>h) (Or.inl ⟨by rfl,?_⟩) hS0 ?_
 ·rintro w⟨q0,q1,q2,q3,q4⟩;go_simp
 try simp only[Act.put,qzF,qzG,qzH]
 refine xbI (i:=6) (oi:=⟨some 77,.load 27 (.tmp 8),27,_,_,none⟩) (v:=VV f.self) (by kernel_rfl) rfl rfl (by kernel_rfl) (by kernel_rfl) (by kernel_rfl) (fun _ _ _ h=>h) (Or.inl ⟨by rfl,?_⟩) hS0 ?_
 ·rintro w⟨q0,q1,q2,q3,q4⟩;go_simp
 try simp only[Act.put,qzF,qzG,qzH]
 refine xbI (i:=7) (oi:=⟨some 78,.fieldAddr 57 (.tmp 15) 1,0,_,_,none⟩) (v:=.pointer (some ⟨wr.heap.size,1,none⟩)) (by kernel_rfl) rfl rfl (by kernel_rfl) (by kernel_rfl) (by kernel_rfl) (fun _ _ _ h=>h) (Or.inl ⟨by rfl,?_⟩) hS0 ?_
 ·rintro w⟨q0,q1,q2,q3,q4⟩;go_simp
 try simp only[Act.put,qzF,qzG,qzH]
 refine xbI (i:=8) (oi:=⟨some 79,.load 3 (.tmp 78),3,_,_,none⟩) (v:=.int .i64 x.a) (by kernel_rfl) rfl rfl (by kernel_rfl) (by kernel_rfl) (by kernel_rfl) (fun _ _ _ h=>h) (Or.inl ⟨by rfl,?_⟩) hS0 ?_
 ·rintro w⟨q0,q1,q2,q3,q4⟩;go_simp
 try simp only[Act.put,qzF,qzG,qzH]
 refine xcV (rs:=[9]) (by kernel_rfl) (by simp) ?_
 intro i hi;simp only[List.mem_cons,List.not_mem_nil,or_false] at hi;subst hi;refine xn0 (o:=⟨some 80,.call ⟨.value (.func 72),#[.tmp 76,.tmp 77,.tmp 79],#[23,27,3]⟩,27,_,_,none⟩) rfl (fun K' hK=>?_)
 refine xaZ rfl 72 (.func 72) #[.tmp 76,.tmp 77,.tmp 79] _ rfl #[] rfl #[.slice ah m.heap.length ch,VV f.self,.int .i64 x.a] (by simp[Act.eval,Act.put]) (vf48 _ _) ?_
 refine (show Calls Tryz.prog 72 #[.slice ah m.heap.length ch,VV f.self,.int .i64 x.a] W.drew _ from (xmS m.heap _ f.self x.a _ (hM1.heap.later xaE (qzL _ W).drew)).mono ?_)
 rintro e wc ⟨rfl,hbc⟩;refine⟨_,rfl,?_⟩;generalize xcF m.heap f.self x.a=y at *;have hbW:Below W.heap.size W wc:=xaf (qzL _ W).drew hbc;refine hK _ _ (fun _=>hSl _ hbW) ?_
 clear hK K'
 try simp only[Act.put,qzF,qzG,qzH]
 refine xcV (rs:=[10]) (by kernel_rfl) (by simp) ?_
 intro i hi;simp only[List.mem_cons,List.not_mem_nil,or_false] at hi;subst hi;refine xn0 (o:=⟨some 81,.buildSlice 28 1 #[(0,.tmp 80)],28,_,_,none⟩) rfl (fun K' hK=>?_)
 go_simp;refine hK _ _ (fun _=>hSl _ (xaf hbW (xak _ _))) ?_
 clear hK K'
 try simp only[Act.put,qzF,qzG,qzH]
 refine xcV (rs:=[11]) (by kernel_rfl) (by simp) ?_
 intro i hi;simp only[List.mem_cons,List.not_mem_nil,or_false] at hi;subst hi;refine xn0 (o:=⟨some 82,.call ⟨.builtin .append,#[.tmp 71,.tmp 81],#[28,28]⟩,28,_,_,none⟩) rfl (fun K' hK=>?_)
 have hst:ownsAt (wc.alloc (.cells #[.int .i64 y.k,.int .i64 y.n] 27)) 0 27 2 (.slice sa f.stack.length sc) f.stack.length (xam f.stack):=((hF1.later hbW).stack.alloc _);obtain⟨v',w',hrun,r1,r2,r3,r4⟩:=xaL (w:=wc.alloc (.cells #[.int .i64 y.k,.int .i64 y.n] 27)) 28 28 27 _ 2 16 Tryz.underlying28 xcg rfl (by omega) 0 f.stack.length (.slice sa f.stack.length sc) (xam f.stack) hst wc.heap.size [.int .i64 y.k,.int .i64 y.n] rfl (qzJ wc _) (by intro u hu;simp only[List.mem_cons,List.not_mem_nil,or_false] at hu;rcases hu with h | h<;>(subst h;rfl)) (by unfold maxLen;omega) (by omega) (by omega)
 obtain⟨a',cap',rfl,-⟩:=r1.form;have hbU:Below wr.heap.size wr (wc.alloc (.cells #[.int .i64 y.k,.int .i64 y.n] 27)):=xaf (xaf HB1.out hbW) (xak _ _);obtain⟨d0,df⟩:=xb8 HF.out hbU r4;refine xaw rfl (.tmp 71) (.tmp 81) 28 rfl (.slice sa f.stack.length sc) (.slice (some ⟨wc.heap.size,0,none⟩) 1 1) (.slice a' (f.stack.length+1) cap') (by simp[Act.eval,Act.put]) (by simp[Act.eval,Act.put]) hrun ?_
 obtain⟨z0,z1,z2,z3,z4⟩:=hSl _ (xaf hbW (xak wc (.cells #[.int .i64 y.k,.int .i64 y.n] 27)));have hp5:=HF.out.pos;have hSa:w'.cell? ⟨w.heap.size+4,0,none⟩=some (.slice sa f.stack.length sc)/\w'.cell? ⟨mb,1,none⟩=some (.slice ah m.heap.length ch)/\w'.cell? ⟨w.heap.size+1,0,none⟩=some (.int .i64 f.self.k)/\w'.cell? ⟨w.heap.size+1,1,none⟩=some (.int .i64 f.self.n)/\w'.cell? ⟨wr.heap.size,1,none⟩=some (.int .i64 x.a):=⟨d0,xcU HF.out r4 (fun _=>by rw[HMa.out.tag];omega) z1,xcU HF.out r4 (fun _=>by rw[HF.out.t1];omega) z2,xcU HF.out r4 (fun _=>by rw[HF.out.t1];omega) z3,xcU HF.out r4 (fun h=>absurd h (Nat.lt_irrefl _)) z4⟩
 refine hK _ _ (fun _=>hSa) ?_
 clear hK K'
 try simp only[Act.put,qzF,qzG,qzH]
 refine xcV (rs:=[12]) (by kernel_rfl) (by simp) ?_
 intro i hi;simp only[List.mem_cons,List.not_mem_nil,or_false] at hi;subst hi;refine xn0 (o:=⟨none,.store 28 (.tmp 12) (.tmp 82),0,_,_,none⟩) rfl (fun K' hK=>?_)
 go_simp;refine hK _ _ (fun h=>absurd rfl h) ?_
 clear hK K'
 try simp only[Act.put,qzF,qzG,qzH]
 refine xjh (by kernel_rfl) ?_ _
 try simp only[Act.put,qzF,qzG,qzH]
 go_wp2
 exact Or.inl ⟨rfl,xcW hX HR.out HG.out HX.out HPU.out HMa.out HF.out HL.out hbU r1 r2 r3 r4⟩
theorem br5:Br 5:=by
 intro p d T T1 w wr W mb K R av kv gk G' m f c n1 n2 n3 k x hv sv ov sa sc H hop
 intros
 rename_i hN K9 hK9;obtain⟨hX,HEn,HR,HG,HX,HMa,HF,HL,HB1,HI,hM1,hF1,hsc1,hsc2,hBl,hWl,hxb,⟨aa,ca,rfl,hca⟩,ht40⟩:=H.pre;have HOP:=hid hop;clear hop;unfold xh4;unfold sw9 at hK9
 have HPU:Hid (xao m.heap { f with pc:=f.pc+1 } x=some (QV.mk 3 x.a)):=by
  show _=_
  have hop:x.op=5:=HOP.out;unfold xao
  simp[hop]
 have hst0:=hF1.st;have x1:=hxb.x1;have HSt:=hid hF1.stack;have hfw:=HX.out.few
 go_wp2_with (at_builtin;refine xbf rfl (.tmp 85) (.tmp 89) 28 27 _ 2 16 rfl Tryz.underlying28 xcg rfl (by omega) 0 f.stack.length (.slice sa f.stack.length sc) (xam f.stack) rfl (HSt.out.alloc _) W.heap.size rfl [.int .i64 3,.int .i64 x.a] rfl (qzJ _ _) (by intro u hu;simp only[List.mem_cons,List.not_mem_nil,or_false] at hu;rcases hu with h | h<;>(subst h;rfl)) (by unfold maxLen;omega) (by omega) (by omega) ?_;intro a' cap' w' r1 r2 r3 r4;have hbU:=xaf HB1.out (xak W (.cells #[.int .i64 3,.int .i64 x.a] 27));obtain⟨d0,df⟩:=xb8 HF.out hbU r4;have R1:=hid r1;have R2:=hid r2;have R3:=hid r3;have R4:=hid r4;have HBU:=hid hbU;clear r1 r2 r3 r4 hbU)
 exact Or.inl ⟨rfl,xcW hX HR.out HG.out HX.out HPU.out HMa.out HF.out HL.out HBU.out R1.out R2.out R3.out R4.out⟩
theorem br6:Br 6:=by
 intro p d T T1 w wr W mb K R av kv gk G' m f c n1 n2 n3 k x hv sv ov sa sc H hop
 intros
 rename_i hN K9 hK9;obtain⟨hX,HEn,HR,HG,HX,HMa,HF,HL,HB1,HI,hM1,hF1,hsc1,hsc2,hBl,hWl,hxb,⟨aa,ca,rfl,hca⟩,ht40⟩:=H.pre;have HOP:=hid hop;clear hop;unfold xh4;unfold sw9 at hK9
 have HPU:Hid (xao m.heap { f with pc:=f.pc+1 } x=some xaU):=by
  show _=_
  have hop:x.op=6:=HOP.out;unfold xao
  simp[hop]
 have hst0:=hF1.st;have x1:=hxb.x1;have HSt:=hid hF1.stack;have hfw:=HX.out.few
 go_wp2_with (at_builtin;refine xbf rfl (.tmp 93) (.tmp 95) 28 27 _ 2 16 rfl Tryz.underlying28 xcg rfl (by omega) 0 f.stack.length (.slice sa f.stack.length sc) (xam f.stack) rfl (HSt.out.alloc _) W.heap.size rfl [.int .i64 0,.int .i64 0] rfl (qzJ _ _) (by intro u hu;simp only[List.mem_cons,List.not_mem_nil,or_false] at hu;rcases hu with h | h<;>(subst h;rfl)) (by unfold maxLen;omega) (by omega) (by omega) ?_;intro a' cap' w' r1 r2 r3 r4;have hbU:=xaf HB1.out (xak W (.cells #[.int .i64 0,.int .i64 0] 27));obtain⟨d0,df⟩:=xb8 HF.out hbU r4;have R1:=hid r1;have R2:=hid r2;have R3:=hid r3;have R4:=hid r4;have HBU:=hid hbU;clear r1 r2 r3 r4 hbU)
 exact Or.inl ⟨rfl,xcW hX HR.out HG.out HX.out HPU.out HMa.out HF.out HL.out HBU.out R1.out R2.out R3.out R4.out⟩
theorem br7:Br 7:=by
 intro p d T T1 w wr W mb K R av kv gk G' m f c n1 n2 n3 k x hv sv ov sa sc H hop
 intros
 rename_i hN K9 hK9;obtain⟨hX,HEn,HR,HG,HX,HMa,HF,HL,HB1,HI,hM1,hF1,hsc1,hsc2,hBl,hWl,hxb,⟨aa,ca,rfl,hca⟩,ht40⟩:=H.pre;have HOP:=hid hop;clear hop;unfold xh4;unfold sw9 at hK9;have hfw:=HX.out.few
 have HPU:Hid (xao m.heap { f with pc:=f.pc+1 } x=some ⟨1,0⟩):=by
  show _=_
  have hop:x.op=7:=HOP.out;unfold xao
  simp[hop]
 have hS0:=pcS (hF1.st) (hxb.x1) (PcS.mk hM1 hF1 HB1.out) (qzL _ W).drew
 go_upto_region 22 with (fail)
 go_region_law (first
  | (refine xaZ rfl 70 (.func 70) #[.const (.bool false)] _ rfl #[] rfl #[.bool false] (by simp[Act.eval,Act.put]) (vf46 _ _) ?_;refine (xeE false _).mono ?_;rintro e wc ⟨rfl,hbc⟩;refine⟨_,rfl,?_⟩;have hS1:=pcL hS0 hbc;obtain⟨hst1,hx1,hP⟩:=id hS1;have hst1a:=qzA (xak wc (.cells #[.int .i64 1,.int .i64 0] 27)) hst1)
  | (have hst:ownsAt (wc.alloc (.cells #[.int .i64 1,.int .i64 0] 27)) 0 27 2 (.slice sa f.stack.length sc) f.stack.length (xam f.stack):=(hP.fr.stack.alloc _);obtain⟨v',w',hrun,r1,r2,r3,r4⟩:=xaL (w:=wc.alloc (.cells #[.int .i64 1,.int .i64 0] 27)) 28 28 27 _ 2 16 Tryz.underlying28 xcg rfl (by omega) 0 f.stack.length (.slice sa f.stack.length sc) (xam f.stack) hst wc.heap.size [.int .i64 1,.int .i64 0] rfl (qzJ wc _) (by intro u hu;simp only[List.mem_cons,List.not_mem_nil,or_false] at hu;rcases hu with h | h<;>(subst h;rfl)) (by unfold maxLen;omega) (by omega) (by omega);obtain⟨a',cap',rfl,-⟩:=r1.form;have hbU:Below wr.heap.size wr (wc.alloc (.cells #[.int .i64 1,.int .i64 0] 27)):=xaf hP.bel (xak _ _);obtain⟨d0,df⟩:=xb8 HF.out hbU r4;have R1:=hid r1;have R2:=hid r2;have R3:=hid r3;have R4:=hid r4;have HBU:=hid hbU;clear r1 r2 r3 r4 hbU hst;refine xaw rfl (.tmp 99) (.tmp 101) 28 rfl (.slice sa f.stack.length sc) (.slice (some ⟨wc.heap.size,0,none⟩) 1 1) (.slice a' (f.stack.length+1) cap') (by simp[Act.eval,Act.put]) (by simp[Act.eval,Act.put]) hrun ?_))
 all_goals (
  go_wp2
  exact Or.inl ⟨rfl,xcW hX HR.out HG.out HX.out HPU.out HMa.out HF.out HL.out HBU.out R1.out R2.out R3.out R4.out⟩)
theorem br8:Br 8:=by
 intro p d T T1 w wr W mb K R av kv gk G' m f c n1 n2 n3 k x hv sv ov sa sc H hop
 intros
 rename_i hN K9 hK9;obtain⟨hX,HEn,HR,HG,HX,HMa,HF,HL,HB1,HI,hM1,hF1,hsc1,hsc2,hBl,hWl,hxb,⟨aa,ca,rfl,hca⟩,ht40⟩:=H.pre;have HOP:=hid hop;clear hop;unfold xh4;unfold sw9 at hK9;have hfw:=HX.out.few
 have HPU:Hid (xao m.heap { f with pc:=f.pc+1 } x=some ⟨2,0⟩):=by
  show _=_
  have hop:x.op=8:=HOP.out;unfold xao
  simp[hop]
 have hS0:=pcS (hF1.st) (hxb.x1) (PcS.mk hM1 hF1 HB1.out) (qzL _ W).drew
 go_upto_region 24 with (fail)
 go_region_law (first
  | (refine xaZ rfl 70 (.func 70) #[.const (.bool true)] _ rfl #[] rfl #[.bool true] (by simp[Act.eval,Act.put]) (vf46 _ _) ?_;refine (xeE true _).mono ?_;rintro e wc ⟨rfl,hbc⟩;refine⟨_,rfl,?_⟩;have hS1:=pcL hS0 hbc;obtain⟨hst1,hx1,hP⟩:=id hS1;have hst1a:=qzA (xak wc (.cells #[.int .i64 2,.int .i64 0] 27)) hst1)
  | (have hst:ownsAt (wc.alloc (.cells #[.int .i64 2,.int .i64 0] 27)) 0 27 2 (.slice sa f.stack.length sc) f.stack.length (xam f.stack):=(hP.fr.stack.alloc _);obtain⟨v',w',hrun,r1,r2,r3,r4⟩:=xaL (w:=wc.alloc (.cells #[.int .i64 2,.int .i64 0] 27)) 28 28 27 _ 2 16 Tryz.underlying28 xcg rfl (by omega) 0 f.stack.length (.slice sa f.stack.length sc) (xam f.stack) hst wc.heap.size [.int .i64 2,.int .i64 0] rfl (qzJ wc _) (by intro u hu;simp only[List.mem_cons,List.not_mem_nil,or_false] at hu;rcases hu with h | h<;>(subst h;rfl)) (by unfold maxLen;omega) (by omega) (by omega);obtain⟨a',cap',rfl,-⟩:=r1.form;have hbU:Below wr.heap.size wr (wc.alloc (.cells #[.int .i64 2,.int .i64 0] 27)):=xaf hP.bel (xak _ _);obtain⟨d0,df⟩:=xb8 HF.out hbU r4;have R1:=hid r1;have R2:=hid r2;have R3:=hid r3;have R4:=hid r4;have HBU:=hid hbU;clear r1 r2 r3 r4 hbU hst;refine xaw rfl (.tmp 105) (.tmp 107) 28 rfl (.slice sa f.stack.length sc) (.slice (some ⟨wc.heap.size,0,none⟩) 1 1) (.slice a' (f.stack.length+1) cap') (by simp[Act.eval,Act.put]) (by simp[Act.eval,Act.put]) hrun ?_))
 all_goals (
  go_wp2
  exact Or.inl ⟨rfl,xcW hX HR.out HG.out HX.out HPU.out HMa.out HF.out HL.out HBU.out R1.out R2.out R3.out R4.out⟩)
theorem br9:Br 9:=by
 intro p d T T1 w wr W mb K R av kv gk G' m f c n1 n2 n3 k x hv sv ov sa sc H hop
 intros
 rename_i hN K9 hK9;obtain⟨hX,HEn,HR,HG,HX,HMa,HF,HL,HB1,HI,hM1,hF1,hsc1,hsc2,hBl,hWl,hxb,⟨aa,ca,rfl,hca⟩,ht40⟩:=H.pre;have HOP:=hid hop;clear hop;unfold xh4;unfold sw9 at hK9;have hneed:=HX.out.need
 have hnx:0<f.stack.length:=by
  have hop:x.op=9:=HOP.out;have hn:xaS x k=⟨1,-1,[(k:Int)+1]⟩:=by unfold xaS;rw[if_pos (by omega)]
  rw[hn] at hneed;simp only[] at hneed;omega
 go_wp2_with fail;refine (xfj hF1 hnx).mono ?_;rintro e w2 ⟨rfl,⟨st',hF2⟩,hK2⟩;have HF2:=hid hF2;have HK2:=hid hK2;clear hF1 hF2 hK2 hM1;go_wp2
 exact Or.inl ⟨rfl,xqv hX HR.out HG.out HX.out (Or.inl HOP.out) HMa.out HL.out HB1.out HF2.out HK2.out⟩
theorem br10:Br 10:=by
 intro p d T T1 w wr W mb K R av kv gk G' m f c n1 n2 n3 k x hv sv ov sa sc H hop
 intros
 rename_i hN K9 hK9;obtain⟨hX,HEn,HR,HG,HX,HMa,HF,HL,HB1,HI,hM1,hF1,hsc1,hsc2,hBl,hWl,hxb,⟨aa,ca,rfl,hca⟩,ht40⟩:=H.pre;have HOP:=hid hop;clear hop;unfold xh4;unfold sw9 at hK9;have hneed:=HX.out.need
 have hnx:0<f.stack.length:=by
  have hop:x.op=10:=HOP.out;have hn:xaS x k=⟨1,1,[(k:Int)+1]⟩:=by unfold xaS;rw[if_neg (by omega),if_pos hop]
  rw[hn] at hneed;simp only[] at hneed;omega
 have hfw:=HX.out.few;have hp5:=hF1.pos;go_wp2_with fail;refine (xfj hF1 hnx).mono ?_;rintro e w2 ⟨rfl,⟨st',hF2⟩,hK2⟩;dsimp only;obtain⟨sb,sd,rfl,hsd1,hsd2⟩:=hF2.stack.form;unfold maxLen at hsd2;have HF2:=hid hF2;have HK2:=hid hK2;have hbx:=xak w2 (.cells #[.int .i64 f.top.k,.int .i64 f.top.n] 27);have hst2:=(hF2.later hbx).st;have b0:(w2.alloc (.cells #[.int .i64 f.top.k,.int .i64 f.top.n] 27)).cell? ⟨w2.heap.size,0,none⟩=some (.int .i64 f.top.k):=xaa _ _ _ _ rfl 0;have b1:(w2.alloc (.cells #[.int .i64 f.top.k,.int .i64 f.top.n] 27)).cell? ⟨w2.heap.size,1,none⟩=some (.int .i64 f.top.n):=xaa _ _ _ _ rfl 1
 have HF3:=hid (hF2.later hbx);have HBX:=hid hbx;clear hF1 hF2 hK2 hM1 hbx
 go_upto_region 29 with (fail)
 generalize (w2.alloc (.cells #[.int .i64 f.top.k,.int .i64 f.top.n] 27))=V at *;have hpl:f.pop.stack.length+1=f.stack.length:=by unfold Fr.pop;simp;omega
 go_wp2_with (at_builtin;refine xfg rfl (.tmp 117) (.tmp 120) 28 27 _ 2 16 rfl Tryz.underlying28 xcg rfl (by omega) 0 f.pop.stack.length (.slice sb f.pop.stack.length sd) (xam f.pop.stack) rfl (HF3.out.stack.alloc _) V.heap.size rfl [.int .i64 f.top.k,.int .i64 f.top.n,.int .i64 f.top.k,.int .i64 f.top.n] rfl (qzJ _ _) (by intro u hu;simp only[List.mem_cons,List.not_mem_nil,or_false] at hu;rcases hu with h | h | h | h<;>(subst h;rfl)) (by unfold maxLen;omega) (by omega) (by omega) ?_;intro a' cap' w' r1 r2 r3 r4;have hbU:=xaf HBX.out (xak V (.cells #[.int .i64 f.top.k,.int .i64 f.top.n,.int .i64 f.top.k,.int .i64 f.top.n] 27));obtain⟨d0,df⟩:=xb8 HF2.out hbU r4;have R1:=hid r1;have R2:=hid r2;have R3:=hid r3;have R4:=hid r4;have HBU:=hid hbU;clear r1 r2 r3 r4 hbU)
 exact Or.inl ⟨rfl,xqf hX HR.out HG.out HX.out HOP.out HMa.out HL.out hnx HB1.out HF2.out HK2.out HBU.out R1.out R2.out R3.out R4.out⟩
theorem br11:Br 11:=by
 intro p d T T1 w wr W mb K R av kv gk G' m f c n1 n2 n3 k x hv sv ov sa sc H hop
 intros
 rename_i hN K9 hK9;obtain⟨hX,HEn,HR,HG,HX,HMa,HF,HL,HB1,HI,hM1,hF1,hsc1,hsc2,hBl,hWl,hxb,⟨aa,ca,rfl,hca⟩,ht40⟩:=H.pre;have HOP:=hid hop;clear hop;unfold xh4;unfold sw9 at hK9;obtain⟨ha0,ha1⟩:=HX.out.temp (Or.inr HOP.out);obtain⟨j,hj⟩:∃ j:Nat,x.a=(j:Int):=⟨x.a.toNat,by omega⟩
 have hl1:=HL.out.2.2.1;have hjl:j<f.temps.length:=by omega
 have hnx:0<f.stack.length:=xkN HX.out (by have hop:x.op=11:=HOP.out;unfold xaS;rw[if_pos (by omega)])
 have x1:=hxb.x1;have hbD:Below W.heap.size W W.drew:=(qzL _ W).drew;have hFt:=HF.out.t4W (U:=W.drew) (xaf HB1.out hbD);have hp5:=hFt.pos;have hj1:(j:Int)<(n2:Int):=by omega
 have hj0:(0:Int)<=(j:Int):=by omega
 have HJ:=hid hj;rw[hj] at x1;clear hM1 hF1 hj ha0 ha1
 go_upto_region 31 with (fail)
 go_region_law (refine xaZ rfl 71 (.tmp 127) #[] _ rfl #[.pointer (some ⟨w.heap.size+4,0,none⟩)] (by simp[Act.eval,Act.put]) #[] (by simp) (vf47 _ _) ?_;refine (show Calls Tryz.prog 71 #[.pointer (some ⟨w.heap.size+4,0,none⟩)] W.drew _ from (xfj hFt hnx).mono ?_);rintro e w2 ⟨rfl,⟨st',hF2⟩,hK2⟩;refine⟨_,rfl,?_⟩;have hx2:=hK2.cell (show W.drew.cell? ⟨wr.heap.size,1,none⟩=some (.int .i64 (j:Int)) from x1) (by rw[xaJ (qzC _)];omega);obtain⟨y0,y1⟩:=xfz hF2.tm (show f.pop.temps[j]?=some f.temps[j] by show f.temps[j]?=_;simp[hjl]);have yf:=xap hF2.tm;have HF2:=hid hF2;have HK2:=hid hK2;clear hF2 hK2)
 all_goals (
  go_wp2
  exact Or.inl ⟨rfl,xqB hX HR.out HG.out HX.out HOP.out HJ.out HMa.out HL.out (xaf HB1.out hbD) HF2.out HK2.out⟩)
theorem br12:Br 12:=by
 intro p d T T1 w wr W mb K R av kv gk G' m f c n1 n2 n3 k x hv sv ov sa sc H hop
 intros
 rename_i hN K9 hK9;obtain⟨hX,HEn,HR,HG,HX,HMa,HF,HL,HB1,HI,hM1,hF1,hsc1,hsc2,hBl,hWl,hxb,⟨aa,ca,rfl,hca⟩,ht40⟩:=H.pre;have HOP:=hid hop;clear hop;unfold xh4;unfold sw9 at hK9;obtain⟨hI,hW,hFo,hPl⟩:=HI.out;have ha0:=xp3 hPl HX.out (Or.inr HOP.out);obtain⟨j,hj⟩:∃ j:Nat,x.a=(j:Int):=⟨x.a.toNat,by omega⟩
 have hnx:0<f.stack.length:=xkN HX.out (by have hop:x.op=12:=HOP.out;unfold xaS;rw[if_pos (by omega)])
 have x1:=hxb.x1;have v0:=hF1.v0;have v1:=hF1.v1;have hbD:Below W.heap.size W W.drew:=(qzL _ W).drew;have hFt:=HF.out.t4W (U:=W.drew) (xaf HB1.out hbD);have hMt:=HMa.out.t4W (U:=W.drew) (xaf HB1.out hbD);have hp5:=hFt.pos;have hws:=hFo.self;have hhl:m.heap.length<=1000:=by have:=hI.heap.len;omega
 have HJ:=hid hj;rw[hj] at x1;clear hM1 hF1 hj ha0 hI hW hFo hPl
 go_upto_region 33 with (fail)
 go_region_law (first
  | (refine xaZ rfl 71 (.tmp 136) #[] _ rfl #[.pointer (some ⟨w.heap.size+4,0,none⟩)] (by simp[Act.eval,Act.put]) #[] (by simp) (vf47 _ _) ?_;refine (show Calls Tryz.prog 71 #[.pointer (some ⟨w.heap.size+4,0,none⟩)] W.drew _ from (xfj hFt hnx).mono ?_);rintro e w2 ⟨rfl,⟨st',hF2⟩,hK2⟩;refine⟨_,rfl,?_⟩;have hx2:=hK2.cell (show W.drew.cell? ⟨wr.heap.size,1,none⟩=some (.int .i64 (j:Int)) from x1) (by rw[xaJ (qzC _)];omega);have z0:w2.cell? ⟨w.heap.size+1,0,none⟩=some (.int .i64 f.self.k):=hF2.v0;have z1:w2.cell? ⟨w.heap.size+1,1,none⟩=some (.int .i64 f.self.n):=hF2.v1;have hM2:=hMt.keep (.refl _ _) hK2 (by omega) (by omega) (by omega) (by omega);have HF2:=hid hF2;have HK2:=hid hK2;clear hF2 hK2)
  | (refine xaZ rfl 73 (.func 73) #[.tmp 132,.tmp 133,.tmp 135,.tmp 137] _ rfl #[] rfl #[.pointer (some ⟨mb,0,none⟩),VV f.self,.int .i64 (j:Int),VV f.top] (by simp[Act.eval,Act.put]) (vf49 _ _) ?_;refine (show Calls Tryz.prog 73 #[.pointer (some ⟨mb,0,none⟩),VV f.self,.int .i64 (j:Int),VV f.top] w2 _ from (xoW hM2 f.self j f.top hws hhl).mono ?_);rintro e w3 ⟨rfl,⟨T3,hv3,hE3,hM3⟩,hK3⟩;refine⟨_,rfl,?_⟩;have HE3:=hid hE3;have HM3:=hid hM3;have HK3:=hid hK3;clear hE3 hM3 hK3))
 all_goals (
  go_wp2
  exact Or.inl ⟨rfl,xpz hX HR.out HG.out HX.out HOP.out HJ.out HL.out (xaf HB1.out hbD) HF2.out HK2.out HE3.out HM3.out HK3.out⟩)
set_option maxRecDepth 8000
theorem xcn {w:World}(T ty e:TypeId)(z:Value)(sz bytes:Nat)(hT:Tryz.prog.underlying T=some (.slice e))(hI:(Tryz.prog.info? e).map (fun i=>(i.zero,i.size,i.bytes))=some (some z,sz,bytes))(hzs:z.cells.size=sz)(hsz:0<sz)(hbz:0<bytes)
  (B:Nat) (hB:w.heap[B]?=some (.cells #[] e (0,0))) (ad:Option Addr) (n cap:Nat) (cs:List Value) (hlen:cs.length=n*sz) (hsrc:∀ j u,cs[j]?=some u->∃ b,ad=some b/\w.cell? (b.add j)=some u) (hn:n*bytes<=140737488351232) :
  ∃ g cap' w',(Builtin.append_ #[T,T] ty #[.slice (some ⟨B,0,none⟩) 0 0,.slice ad n cap]).run Tryz.prog w=.ok (.slice (some ⟨g,0,none⟩) n cap') w'/\w'.ownsRow B e sz (.slice (some ⟨g,0,none⟩) n cap') n cs/\(g=B\/w.heap.size<=g)/\g<w'.heap.size/\Below w.heap.size w w':=by
 obtain⟨i0,hi,hz0,hz1,hz2⟩:=xa8 hI;have hBl:=xal hB
 by_cases h0:n=0
 ·subst h0;have hcs:cs=[]:=List.eq_nil_of_length_eq_zero (by simpa using hlen)
  refine⟨B,0,w,xdO (P:=Tryz.prog) w T ty e i0 hT hi B ad cap,?_,Or.inl rfl,hBl,qzL _ _⟩;rw[hcs]
  exact⟨by simp,.inr ⟨B,0,#[],rfl,qzC _,hB,qzC _,by unfold maxLen;omega,by simp,by simp⟩⟩
 ·obtain⟨b,rfl⟩:∃ b,ad=some b:=by
   have:0<cs.length:=by rw[hlen];exact Nat.mul_pos (by omega) hsz
   obtain⟨b,e,-⟩:=hsrc 0 cs[0] (by simp[this])
   exact⟨b,e⟩
  have hnb:n<=140737488351232:=qzD (Nat.le_mul_of_pos_right n hbz) hn;obtain⟨v',w',hrun,r1,r2⟩:=run_append_arg_grows (P:=Tryz.prog) w T ty e i0 _ sz bytes hT hi hz0 hz1 hz2 hzs hsz ⟨B,0,none⟩ 0 0 [] (by simp) (fun j u hu=>by simp at hu) b n cap cs hlen (fun j u hu=>by obtain⟨b',e,h⟩:=hsrc j u hu;cases e;exact h) (by omega) (by unfold maxLen;omega) (by rw[Nat.zero_add];omega)
  simp only[Nat.zero_add,List.nil_append] at r1;obtain⟨g,cap',rfl,hg,hgl⟩:=r1.form (by omega)
  refine⟨g,cap',w',hrun,?_,Or.inr hg,hgl,(qzL _ _).grown r2 (qzC _) (fun k hk=>by cases hk)⟩
  obtain⟨q1,q2⟩:=r1;refine⟨q1,?_⟩
  rcases q2 with q2 | ⟨g',c',cur,e,h1,h2⟩
  ·exact .inl q2
  ·exact .inr ⟨g',c',cur,e,by omega,h2⟩
theorem tk0 (k:Nat):(List.replicate k xaU).length=k:=List.length_replicate
section
variable {p:Rp} {T:Nat->Nat} {U w4 w5:World} {mb:Nat} {m:Mc RSt} {deep err:Int} {hv sv ov:Value}
theorem xqZ {v0 v':Value}{cs:List Value}{vb k:Nat}{c:Int}(h:RMac p T U mb m deep err hv sv ov)(hcs:Cells xnN 2 (Fx T U) U cs m.heap)(hb4:Below U.heap.size U w4)(hvb:U.heap.size<=vb)(hvw:w4.heap[vb]?=some (.cells (xam (List.replicate k xaU)).toArray 27 (0,0)))(hvg:some vb≠v0.ownBlock)
  (r1:ownsAt w5 U.heap.size 61 2 v' (m.heap.length+1) (cs++[.int .i64 c,.slice (some ⟨vb,0,none⟩) k k])) (r3:Below U.heap.size w4 w5) (r4:∀ b,b<w4.heap.size->some b≠v0.ownBlock->w5.heap[b]?=w4.heap[b]?) (hl:m.heap.length<=1000) (hk:k<=2147483647) :
  RMac p (xaF T U 0) (w5.setCell ⟨mb,1,none⟩ v') mb { m with heap:=m.heap++[⟨c,List.replicate k xaU⟩] } deep err v' sv ov/\Kp (fun t=>t=1) T U (w5.setCell ⟨mb,1,none⟩ v'):=by
 have hlm:=xal h.box;have hb5:Below U.heap.size U w5:=hb4.trans r3;have k1:Kp (fun t=>t=1) T U (w5.setCell ⟨mb,1,none⟩ v'):=(Kp.of_below hb5).set (fun _=>h.tag) _ _
 have hex:=xaq T U 0;refine⟨?_,k1⟩;have hv5:w5.heap[vb]?=some (.cells (xam (List.replicate k xaU)).toArray 27 (0,0)):=by rw[r4 vb (xal hvw) hvg];exact hvw
 have hbox:w5.heap[mb]?=some (RB p m deep err hv sv ov):=by rw[hb5.block _ hlm];exact h.box
 have hb':=xnH hbox (m.heap++[⟨c,List.replicate k xaU⟩]) v';have hv6:(w5.setCell ⟨mb,1,none⟩ v').heap[vb]?=some (.cells (xam (List.replicate k xaU)).toArray 27 (0,0)):=by rw[xac (by omega)];exact hv5
 have hr1:ownsAt (w5.setCell ⟨mb,1,none⟩ v') U.heap.size 61 2 v' (m.heap.length+1) (cs++[.int .i64 c,.slice (some ⟨vb,0,none⟩) k k]):=r1.keep fun g hg=>xac (by have:=r1.lt g hg;omega) _
 generalize hU:w5.setCell ⟨mb,1,none⟩ v'=V at *;have hall:∀ b,U.heap.size<=b->b<V.heap.size->Fx (xaF T U 0) V b:=fun b h1 h2=>⟨h2,xaJ h1⟩
 have hsz:U.heap.size<=V.heap.size:=k1.size;have hc0:Cells xnN 2 (Fx (xaF T U 0) V) V cs m.heap:=hcs.keep xaE (Keeps.of_block fun b hb hl=>k1.blk b hl (by rw[hb.2];omega)) fun b hb=>⟨by omega,by rw[hex b hb.1];exact hb.2⟩
 have hv7:xaO (Fx (xaF T U 0) V) V (.slice (some ⟨vb,0,none⟩) k k) (List.replicate k xaU):=by
  have:=xhM (P:=Fx (xaF T U 0) V) hv6 (hall vb hvb (xal hv6)) (by rw[tk0];omega)
  rw[tk0] at this
  exact this
 have hc1:Cells xnN 2 (Fx (xaF T U 0) V) V [.int .i64 c,.slice (some ⟨vb,0,none⟩) k k] [⟨c,List.replicate k xaU⟩]:=Cells.one xaE rfl ⟨rfl,_,rfl,hv7⟩;have hs1:=h.sites.keep (w':=V) fun b hg=>k1.blk b (h.sites.lt b hg).2 (by rw[h.stag b hg];omega)
 have ho1:=h.of.keep (w':=V) fun b hg=>k1.blk b (h.of.lt b hg).2 (by rw[h.otag b hg];omega)
 exact⟨hb',by rw[hex _ hlm];exact h.tag,h.cls.fx xaA hex k1 (by omega),xf6 xaE hr1 (hc0.append xaE hc1) (by simp) hall (by omega),hs1,fun b hg=>by rw[hex _ (h.sites.lt b hg).2];exact h.stag b hg,ho1,fun b hg=>by rw[hex _ (h.of.lt b hg).2];exact h.otag b hg⟩
end
section
variable {p:Rp} {d:Nat} {T T1 T2:Nat->Nat} {w wr w2:World} {mb K:Nat} {R:Mc RSt × QV × Int} {av kv:Value} {gk:Nat} {at' at2:Value} {m:Mc RSt} {f:Fr}
variable {c:Int} {n1 n2 n3 G' k:Nat} {x:QI} {hv sv ov st st':Value} {U w':World}
theorem xmP (hX:Rx p)(hR:BdR p d T w mb K R av kv gk at' T1 m f 0 wr)(hg:gk=G'+1)(hx:NxOk f k x)(hop:x.op=13)(h6:60<=m.heap.length){W2:World}(hE:Ext T1 T2 wr)(hK:Kp (All K) T1 wr W2)(hM:RMac p T2 W2 mb m (20-(d:Int)) 15 hv sv ov) :
  BdX p d T w mb K R av kv c n1 n2 n3 G' (.int .i64 ((k:Int)+1)) W2:=by
 have hr:xaj (xa4 p.E d) p.E d m { f with pc:=f.pc+1 } f.pc x=(m,{ f with pc:=f.pc+1 },15):=by
  rw[xbX _ _ (by omega)];unfold xcG;rw[if_neg (by omega),if_neg (by omega),if_neg (by omega),if_neg (by omega),if_pos hop]
  unfold xbV;rw[if_pos (Or.inl h6)]
 exact xcz hX hR hg hx (by omega) hr hE hK hM (fun h=>by cases h) (fun h=>by cases h) (fun h=>by cases h)
theorem xn7 (hX:Rx p)(hR:BdR p d T w mb K R av kv gk at' T1 m f 0 wr)(hg:gk=G'+1)(hx:NxOk f k x)(hop:x.op=13)(h6:¬ 60<=m.heap.length){sl:Nat}(hsl:xaY p.X.cz x.a=(sl:Int))(hs2:sl<=2147483647)(hL:xj9 c n1 n2 n3 f){W2:World}(hE:Ext T1 T2 wr)(hK:Kp (All K) T1 wr W2)(hM:RMac p T2 W2 mb { m with heap:=m.heap++[⟨x.a,List.replicate sl xaU⟩] } (20-(d:Int)) 0 hv sv ov)(hF:RF T2 K W2 w.heap.size { f with stack:=f.stack++[⟨4,(m.heap.length:Int)⟩] } av kv st) :
  BdX p d T w mb K R av kv c n1 n2 n3 G' (.int .i64 ((k:Int)+1)) W2:=by
 have hr:xaj (xa4 p.E d) p.E d m { f with pc:=f.pc+1 } f.pc x=({ m with heap:=m.heap++[⟨x.a,List.replicate sl xaU⟩] },({ f with pc:=f.pc+1 }:Fr).push ⟨4,(m.heap.length:Int)⟩,0):=by
  rw[xbX _ _ (by omega)];unfold xcG;rw[if_neg (by omega),if_neg (by omega),if_neg (by omega),if_neg (by omega),if_pos hop]
  unfold xbV
  have hc:¬ (60<=m.heap.length\/2147483647<xaY p.E.cz x.a):=by
   show ¬ (60<=m.heap.length\/2147483647<xaY p.X.cz x.a)
   rw[hsl];omega
  rw[if_neg hc]
  show (({ m with heap:=m.heap++[⟨x.a,List.replicate (xaY p.X.cz x.a).toNat xaU⟩] }:Mc RSt),_,_)=_
  rw[hsl];rfl
 exact xcz hX hR hg hx (by omega) hr hE hK hM (fun _=>⟨_,hF.at _⟩) (fun _=>by show f.pc+1=_;rw[hx.pc]) (fun _=>hL)
end
theorem xnY {p:Rp}(hX:Rx p)(c:Int):xbY p.X.cz/\∃ sl:Nat,xaY p.X.cz c=(sl:Int)/\sl<=1000:=by
 have ho:=xeq hX.right;obtain⟨hs,-,-,-⟩:=xcl hX.right;have hm:=hs.many;have h:=xcD ho (p.X.cz.length+1) c 0 (Int.le_refl _);have e:xaY p.X.cz c=upE xe0 p.X.cz (p.X.cz.length+1) c 0:=rfl;rw[← e] at h
 exact⟨ho,(xaY p.X.cz c).toNat,by omega,by omega⟩
set_option maxRecDepth 100000
theorem br13:Br 13:=by
 intro p d T T1 w wr W mb K R av kv gk G' m f c n1 n2 n3 k x hv sv ov sa sc H hop
 intros
 rename_i hN K9 hK9;obtain⟨hX,HEn,HR,HG,HX,HMa,HF,HL,HB1,HI,hM1,hF1,hsc1,hsc2,hBl,hWl,hxb,⟨aa,ca,rfl,hca⟩,ht40⟩:=H.pre;have HOP:=hid hop;clear hop;unfold xh4;unfold sw9 at hK9;obtain⟨hI,hW,hFo,hPl⟩:=HI.out;have x1:=hxb.x1;have hfw:=HX.out.few;have hp5:=hF1.pos;obtain⟨ah,ch,rfl,-⟩:=id hM1.heap;have c1:=hM1.c1;have c7:=hM1.c7;have cf7:=xap hM1.box
 by_cases h6:60<=m.heap.length
 ·have h6':(60:Int)<=(m.heap.length:Int):=by omega
  have H6:=hid h6;have HN7:=hid (hM1.num7 15);have HT7:=hid hM1.tag;have HMl:=hid (xal HMa.out.box);clear hF1 hM1 h6 hI hW hFo hPl;go_wp2
  exact Or.inl ⟨rfl,xmP hX HR.out HG.out HX.out HOP.out H6.out (.refl _ _) ((Kp.of_below HB1.out).set (fun _=>Or.inl HT7.out) _ _) HN7.out⟩
 ·have h6':¬ ((60:Int)<=(m.heap.length:Int)):=by omega
  have H6:=hid h6;have hSl:∀ w',Below W.heap.size W w'->w'.cell? ⟨w.heap.size+4,0,none⟩=some (.slice sa f.stack.length sc)/\w'.cell? ⟨mb,1,none⟩=some (.slice ah m.heap.length ch):=fun w' hb=>⟨qzA hb hF1.st,qzA hb hM1.c1⟩
  have hS0:=hSl _ (qzL _ W).drew
  go_upto_region 37 with (fail)
  refine xav (S:=fun w'=>w'.cell? ⟨w.heap.size+4,0,none⟩=some (.slice sa f.stack.length sc)/\w'.cell? ⟨mb,1,none⟩=some (.slice ah m.heap.length ch)) [10] (by kernel_rfl) ?_
  refine tk 0 _ (.slice sa f.stack.length sc) rfl (hS0) (fun _ _ _ h=>h) rfl (by kernel_rfl) ?_ ?_
  ·rintro w⟨q0,q1⟩;go_simp
  try simp only[Act.put,qzF,qzG,qzH]
  refine tk 1 _ (.pointer (some ⟨mb,0,none⟩)) rfl (hS0) (fun _ _ _ h=>h) rfl (by kernel_rfl) ?_ ?_
  ·rintro w⟨q0,q1⟩;go_simp
  try simp only[Act.put,qzF,qzG,qzH]
  refine tk 2 _ (.pointer (some ⟨mb,0,none⟩)) rfl (hS0) (fun _ _ _ h=>h) rfl (by kernel_rfl) ?_ ?_
  ·rintro w⟨q0,q1⟩;go_simp
  try simp only[Act.put,qzF,qzG,qzH]
  refine tk 3 _ (.pointer (some ⟨mb,0,none⟩)) rfl (hS0) (fun _ _ _ h=>h) rfl (by kernel_rfl) ?_ ?_
  ·rintro w⟨q0,q1⟩;go_simp
  try simp only[Act.put,qzF,qzG,qzH]
  refine tk 4 _ (.pointer (some ⟨mb,1,none⟩)) rfl (hS0) (fun _ _ _ h=>h) rfl (by kernel_rfl) ?_ ?_
  ·rintro w⟨q0,q1⟩;go_simp
  try simp only[Act.put,qzF,qzG,qzH]
  refine tk 5 _ (.slice ah m.heap.length ch) rfl (hS0) (fun _ _ _ h=>h) rfl (by kernel_rfl) ?_ ?_
  ·rintro w⟨q0,q1⟩;go_simp
  try simp only[Act.put,qzF,qzG,qzH]
  refine tk 6 _ (.int .i64 (m.heap.length:Int)) rfl (hS0) (fun _ _ _ h=>h) rfl (by kernel_rfl) ?_ ?_
  ·rintro w⟨q0,q1⟩;go_simp
  try simp only[Act.put,qzF,qzG,qzH]
  refine tk 7 _ (VV ⟨4,(m.heap.length:Int)⟩) rfl (hS0) (fun _ _ _ h=>h) rfl (by kernel_rfl) ?_ ?_
  ·rintro w⟨q0,q1⟩;go_simp
  try simp only[Act.put,qzF,qzG,qzH]
  refine xab (rs:=[8]) (by kernel_rfl) (by simp) ?_
  intro i hi;simp only[List.mem_cons,List.not_mem_nil,or_false] at hi;subst hi;refine xaN (o:=_) rfl (fun K' hK=>?_)
  go_simp;refine hK _ _ (fun _=>hSl _ (xaf (qzL _ W).drew (xak _ _))) ?_
  clear hK K'
  try simp only[Act.put,qzF,qzG,qzH]
  refine xab (rs:=[9]) (by kernel_rfl) (by simp) ?_
  intro i hi;simp only[List.mem_cons,List.not_mem_nil,or_false] at hi;subst hi;refine xaN (o:=_) rfl (fun K' hK=>?_)
  have hst:ownsAt ((W.drew).alloc (.cells #[.int .i64 4,.int .i64 (m.heap.length:Int)] 27)) 0 27 2 (.slice sa f.stack.length sc) f.stack.length (xam f.stack):=((hF1.later (qzL _ W).drew).stack.alloc _);obtain⟨v',w',hrun,r1,r2,r3,r4⟩:=xaL (w:=(W.drew).alloc (.cells #[.int .i64 4,.int .i64 (m.heap.length:Int)] 27)) 28 28 27 _ 2 16 Tryz.underlying28 xcg rfl (by omega) 0 f.stack.length (.slice sa f.stack.length sc) (xam f.stack) hst (W.drew).heap.size [.int .i64 4,.int .i64 (m.heap.length:Int)] rfl (qzJ (W.drew) _) (by intro u hu;simp only[List.mem_cons,List.not_mem_nil,or_false] at hu;rcases hu with h | h<;>(subst h;rfl)) (by unfold maxLen;omega) (by omega) (by omega)
  obtain⟨a',cap',rfl,-⟩:=r1.form;have hbU:Below wr.heap.size wr (W.drew.alloc (.cells #[.int .i64 4,.int .i64 (m.heap.length:Int)] 27)):=xaf (xaf HB1.out (qzL _ W).drew) (xak _ _);obtain⟨d0,df⟩:=xb8 HF.out hbU r4;refine xaw rfl (.tmp 151) (.tmp 159) 28 rfl (.slice sa f.stack.length sc) (.slice (some ⟨W.drew.heap.size,0,none⟩) 1 1) (.slice a' (f.stack.length+1) cap') (by simp[Act.eval,Act.put]) (by simp[Act.eval,Act.put]) hrun ?_
  obtain⟨z0,z1⟩:=hSl _ (xaf (qzL _ W).drew (xak W.drew (.cells #[.int .i64 4,.int .i64 (m.heap.length:Int)] 27)));have hSa:w'.cell? ⟨w.heap.size+4,0,none⟩=some (.slice sa f.stack.length sc)/\w'.cell? ⟨mb,1,none⟩=some (.slice ah m.heap.length ch):=⟨d0,xcU HF.out r4 (fun _=>by rw[HMa.out.tag];omega) z1⟩
  refine hK _ _ (fun _=>hSa) ?_
  clear hK K'
  try simp only[Act.put,qzF,qzG,qzH]
  refine xab (rs:=[10]) (by kernel_rfl) (by simp) ?_
  intro i hi;simp only[List.mem_cons,List.not_mem_nil,or_false] at hi;subst hi;refine xaN (o:=_) rfl (fun K' hK=>?_)
  go_simp;refine hK _ _ (fun h=>absurd h (by decide)) ?_
  clear hK K'
  try simp only[Act.put,qzF,qzG,qzH]
  refine xaz (by kernel_rfl) ?_ _
  try simp only[Act.put,qzF,qzG,qzH]
  obtain⟨⟨T2,e1,e2⟩,e3⟩:=HF.out.pushed (vs:=[⟨4,(m.heap.length:Int)⟩]) hbU (by simp;omega) (by simpa [xam] using r1) r2 r3 r4
  have hM2:=HMa.out.keep e1 e3 (by omega) (by omega) (by omega) (by omega)
  have x2:(w'.setCell ⟨w.heap.size+4,0,none⟩ (.slice a' (f.stack.length+1) cap')).cell? ⟨wr.heap.size,1,none⟩=some (.int .i64 x.a):=(qzI _ _ _ _ (by simp;omega)).trans (xcU HF.out r4 (fun h=>absurd h (Nat.lt_irrefl _)) (qzA (xaf (qzL _ W).drew (xak _ _)) x1))
  obtain⟨ac,cc,hcv,-⟩:=id hM2.cls;obtain⟨ho,sl,hsl,hsl2⟩:=xnY hX x.a;have E1:=hid e1;have E2:=hid e2;have E3:=hid e3;clear hS0 hSl hF1 hM1 d0 df hst hrun r1 r2 r3 r4 hbU e1 e2 e3 c1 c7 cf7 x1
  go_upto_region 38 with (fail)
  generalize (w'.setCell ⟨w.heap.size+4,0,none⟩ (.slice a' (f.stack.length+1) cap'))=U at *;have hSl:∀ w',Below U.heap.size U w'->w'.cell? ⟨mb,0,none⟩=some (.slice ac p.X.cz.length cc)/\w'.cell? ⟨mb,1,none⟩=some (.slice ah m.heap.length ch)/\w'.cell? ⟨mb,2,none⟩=some (.int .i64 p.X.ez)/\w'.cell? ⟨wr.heap.size,1,none⟩=some (.int .i64 x.a):=fun w' hb=>⟨by rw[← hcv];exact qzA hb hM2.c0,qzA hb hM2.c1,qzA hb hM2.c2,qzA hb x2⟩
  have hS0:=hSl _ (qzL _ U).drew;obtain⟨cs,hcs,hsrc⟩:=xi4 hM2.heap;have hlen:=hcs.1;have hmk:=xcH sl (by omega)
  have hmbl:=xal hM2.box;have hbD:Below U.heap.size U U.drew:=(qzL _ U).drew;have hbE:Below U.heap.size U (U.drew.alloc (.cells #[] 61)):=xaf hbD (xak _ _);refine xav (S:=fun w'=>w'.cell? ⟨mb,0,none⟩=some (.slice ac p.X.cz.length cc)/\w'.cell? ⟨mb,1,none⟩=some (.slice ah m.heap.length ch)/\w'.cell? ⟨mb,2,none⟩=some (.int .i64 p.X.ez)/\w'.cell? ⟨wr.heap.size,1,none⟩=some (.int .i64 x.a)) [24] (by kernel_rfl) ?_
  refine tk 0 _ (.pointer (some ⟨mb,0,none⟩)) rfl (hS0) (fun _ _ _ h=>h) rfl (by kernel_rfl) ?_ ?_
  ·rintro w⟨q0,q1,q2,q3⟩;go_simp
  try simp only[Act.put,qzF,qzG,qzH]
  refine tk 2 _ (.pointer (some ⟨mb,0,none⟩)) rfl (hS0) (fun _ _ _ h=>h) rfl (by kernel_rfl) ?_ ?_
  ·rintro w⟨q0,q1,q2,q3⟩;go_simp
  try simp only[Act.put,qzF,qzG,qzH]
  refine tk 3 _ (.pointer (some ⟨mb,0,none⟩)) rfl (hS0) (fun _ _ _ h=>h) rfl (by kernel_rfl) ?_ ?_
  ·rintro w⟨q0,q1,q2,q3⟩;go_simp
  try simp only[Act.put,qzF,qzG,qzH]
  refine tk 4 _ (.pointer (some ⟨mb,0,none⟩)) rfl (hS0) (fun _ _ _ h=>h) rfl (by kernel_rfl) ?_ ?_
  ·rintro w⟨q0,q1,q2,q3⟩;go_simp
  try simp only[Act.put,qzF,qzG,qzH]
  refine tk 5 _ (.pointer (some ⟨mb,1,none⟩)) rfl (hS0) (fun _ _ _ h=>h) rfl (by kernel_rfl) ?_ ?_
  ·rintro w⟨q0,q1,q2,q3⟩;go_simp
  try simp only[Act.put,qzF,qzG,qzH]
  refine tk 6 _ (.slice ah m.heap.length ch) rfl (hS0) (fun _ _ _ h=>h) rfl (by kernel_rfl) ?_ ?_
  ·rintro w⟨q0,q1,q2,q3⟩;go_simp
  try simp only[Act.put,qzF,qzG,qzH]
  refine tk 8 _ (.pointer (some ⟨wr.heap.size,1,none⟩)) rfl (hS0) (fun _ _ _ h=>h) rfl (by kernel_rfl) ?_ ?_
  ·rintro w⟨q0,q1,q2,q3⟩;go_simp
  try simp only[Act.put,qzF,qzG,qzH]
  refine tk 9 _ (.int .i64 x.a) rfl (hS0) (fun _ _ _ h=>h) rfl (by kernel_rfl) ?_ ?_
  ·rintro w⟨q0,q1,q2,q3⟩;go_simp
  try simp only[Act.put,qzF,qzG,qzH]
  refine tk 10 _ (.pointer (some ⟨mb,0,none⟩)) rfl (hS0) (fun _ _ _ h=>h) rfl (by kernel_rfl) ?_ ?_
  ·rintro w⟨q0,q1,q2,q3⟩;go_simp
  try simp only[Act.put,qzF,qzG,qzH]
  refine tk 11 _ (.pointer (some ⟨mb,0,none⟩)) rfl (hS0) (fun _ _ _ h=>h) rfl (by kernel_rfl) ?_ ?_
  ·rintro w⟨q0,q1,q2,q3⟩;go_simp
  try simp only[Act.put,qzF,qzG,qzH]
  refine tk 12 _ (.pointer (some ⟨mb,0,none⟩)) rfl (hS0) (fun _ _ _ h=>h) rfl (by kernel_rfl) ?_ ?_
  ·rintro w⟨q0,q1,q2,q3⟩;go_simp
  try simp only[Act.put,qzF,qzG,qzH]
  refine tk 13 _ (WV (.slice ac p.X.cz.length cc) (.slice ah m.heap.length ch) p.X.ez) rfl (hS0) (fun _ _ _ h=>h) rfl (by kernel_rfl) ?_ ?_
  ·rintro w⟨q0,q1,q2,q3⟩;go_simp
  try simp only[Act.put,qzF,qzG,qzH]
  refine tk 14 _ (.pointer (some ⟨wr.heap.size,1,none⟩)) rfl (hS0) (fun _ _ _ h=>h) rfl (by kernel_rfl) ?_ ?_
  ·rintro w⟨q0,q1,q2,q3⟩;go_simp
  try simp only[Act.put,qzF,qzG,qzH]
  refine tk 15 _ (.int .i64 x.a) rfl (hS0) (fun _ _ _ h=>h) rfl (by kernel_rfl) ?_ ?_
  ·rintro w⟨q0,q1,q2,q3⟩;go_simp
  try simp only[Act.put,qzF,qzG,qzH]
  refine xab (rs:=[1]) (by kernel_rfl) (by simp) ?_
  intro i hi;simp only[List.mem_cons,List.not_mem_nil,or_false] at hi;subst hi;refine xaN (o:=_) rfl (fun K' hK=>?_)
  go_simp;refine hK _ _ (fun _=>hSl _ hbE) ?_
  clear hK K'
  try simp only[Act.put,qzF,qzG,qzH]
  refine xab (rs:=[7]) (by kernel_rfl) (by simp) ?_
  intro i hi;simp only[List.mem_cons,List.not_mem_nil,or_false] at hi;subst hi;refine xaN (o:=_) rfl (fun K' hK=>?_)
  obtain⟨g,cap1,w1,hrun1,hown,hgB,hgl,hbA⟩:=xcn (w:=U.drew.alloc (.cells #[] 61)) 23 23 61 _ 2 32 Tryz.underlying23 xh9 rfl (by omega) (by omega) U.drew.heap.size (qzJ U.drew _) ah m.heap.length ch cs hlen (fun j u hj=>by obtain⟨b,e,h⟩:=hsrc j u hj;exact⟨b,e,qzA hbE h⟩) (by omega)
  have hb1:Below U.heap.size U w1:=xaf hbE hbA
  have hgU:U.heap.size<=g:=by
   rcases hgB with h | h
   ·rw[h];exact qzC _
   ·have:=hbE.size;omega
  refine xaw rfl (.tmp 162) (.tmp 167) 23 rfl (.slice (some ⟨U.drew.heap.size,0,none⟩) 0 0) (.slice ah m.heap.length ch) (.slice (some ⟨g,0,none⟩) m.heap.length cap1) (by simp[Act.eval,Act.put]) (by simp[Act.eval,Act.put]) hrun1 ?_
  refine hK _ _ (fun _=>hSl _ hb1) ?_
  clear hK K'
  try simp only[Act.put,qzF,qzG,qzH]
  refine xab (rs:=[16]) (by kernel_rfl) (by simp) ?_
  intro i hi;simp only[List.mem_cons,List.not_mem_nil,or_false] at hi;subst hi;refine xaN (o:=_) rfl (fun K' hK=>?_)
  refine xaZ rfl 16 (.func 16) #[.tmp 174,.tmp 176] _ rfl #[] rfl #[WV (.slice ac p.X.cz.length cc) (.slice ah m.heap.length ch) p.X.ez,.int .i64 x.a] (by simp[Act.eval,Act.put]) (vf17 _ _) ?_
  refine (show Calls Tryz.prog 16 #[WV (.slice ac p.X.cz.length cc) (.slice ah m.heap.length ch) p.X.ez,.int .i64 x.a] w1 _ from (xcB ⟨p.X.cz,m.heap,p.X.ez⟩ x.a _ _ w1 (by rw[← hcv];exact (hM2.cls.later xaA hb1)) (hM2.heap.later xaE hb1) ho).mono ?_)
  rintro e w2 ⟨rfl,hbS⟩;rw[show xaY (QW.mk p.X.cz m.heap p.X.ez).cz x.a=(sl:Int) from hsl]
  refine⟨_,rfl,?_⟩;have hb2:Below U.heap.size U w2:=xaf hb1 hbS;have hb3:Below U.heap.size U (w2.alloc (.cells (madeCells #[.int .i64 0,.int .i64 0] (sl*2)) 27)):=xaf hb2 (xak _ _);have hb4:Below U.heap.size U ((w2.alloc (.cells (madeCells #[.int .i64 0,.int .i64 0] (sl*2)) 27)).alloc (.cells #[.int .i64 x.a,.slice (some ⟨w2.heap.size,0,none⟩) sl sl] 61)):=xaf hb3 (xak _ _);have hvb:U.heap.size<=w2.heap.size:=hb2.size;refine hK _ _ (fun _=>hSl _ hb2) ?_
  clear hK K'
  try simp only[Act.put,qzF,qzG,qzH]
  refine xab (rs:=[17]) (by kernel_rfl) (by simp) ?_
  intro i hi;simp only[List.mem_cons,List.not_mem_nil,or_false] at hi;subst hi;refine xaN (o:=_) rfl (fun K' hK=>?_)
  go_simp;refine hK _ _ (fun _=>hSl _ hb3) ?_
  clear hK K'
  try simp only[Act.put,qzF,qzG,qzH]
  refine tk 18 _ (.agg #[.int .i64 x.a,.slice (some ⟨w2.heap.size,0,none⟩) sl sl]) rfl (hSl _ hb3) (fun _ _ _ h=>h) rfl (by kernel_rfl) ?_ ?_
  ·rintro w⟨q0,q1,q2,q3⟩;go_simp
  try simp only[Act.put,qzF,qzG,qzH]
  refine xab (rs:=[19]) (by kernel_rfl) (by simp) ?_
  intro i hi;simp only[List.mem_cons,List.not_mem_nil,or_false] at hi;subst hi;refine xaN (o:=_) rfl (fun K' hK=>?_)
  go_simp;refine hK _ _ (fun _=>hSl _ hb4) ?_
  clear hK K'
  try simp only[Act.put,qzF,qzG,qzH]
  refine xab (rs:=[20]) (by kernel_rfl) (by simp) ?_
  intro i hi;simp only[List.mem_cons,List.not_mem_nil,or_false] at hi;subst hi;refine xaN (o:=_) rfl (fun K' hK=>?_)
  have hgw:g<w2.heap.size:=qzE hgl hbS.size;have hst4:ownsAt ((w2.alloc (.cells (madeCells #[.int .i64 0,.int .i64 0] (sl*2)) 27)).alloc (.cells #[.int .i64 x.a,.slice (some ⟨w2.heap.size,0,none⟩) sl sl] 61)) U.heap.size 61 2 (.slice (some ⟨g,0,none⟩) m.heap.length cap1) m.heap.length cs:=(((xcK hown (qzC _)).base (base':=U.heap.size) (fun g' hg'=>by cases hg';exact hgU)).keep (fun g' hg'=>by cases hg';exact hbS.block _ hgl)).alloc _ |>.alloc _
  have hvw:((w2.alloc (.cells (madeCells #[.int .i64 0,.int .i64 0] (sl*2)) 27)).alloc (.cells #[.int .i64 x.a,.slice (some ⟨w2.heap.size,0,none⟩) sl sl] 61)).heap[w2.heap.size]?=some (.cells (xam (List.replicate sl xaU)).toArray 27 (0,0)):=by
   rw[← xld];exact xad (qzJ w2 _) (xak _ _)
  have hvg:some w2.heap.size≠(Value.slice (some ⟨g,0,none⟩) m.heap.length cap1).ownBlock:=fun e=>by have h1:w2.heap.size=g:=(by simpa [Value.ownBlock] using e);omega
  obtain⟨v5,w5,hrun5,r1,r2,r3,r4⟩:=xaL (w:=(w2.alloc (.cells (madeCells #[.int .i64 0,.int .i64 0] (sl*2)) 27)).alloc (.cells #[.int .i64 x.a,.slice (some ⟨w2.heap.size,0,none⟩) sl sl] 61)) 23 23 61 _ 2 32 Tryz.underlying23 xh9 rfl (by omega) U.heap.size m.heap.length (.slice (some ⟨g,0,none⟩) m.heap.length cap1) cs hst4 (w2.heap.size+1) [.int .i64 x.a,.slice (some ⟨w2.heap.size,0,none⟩) sl sl] rfl (by have:=qzJ (w2.alloc (.cells (madeCells #[.int .i64 0,.int .i64 0] (sl*2)) 27)) (.cells #[.int .i64 x.a,.slice (some ⟨w2.heap.size,0,none⟩) sl sl] 61);simpa using this) (by intro u hu;simp only[List.mem_cons,List.not_mem_nil,or_false] at hu;rcases hu with h | h<;>(subst h;rfl)) (by unfold maxLen;omega) (by omega) (by have:=hb4.size;omega)
  obtain⟨a5,cap5,rfl,-⟩:=r1.form;have hb5:Below U.heap.size U w5:=hb4.trans r3;have cf5:∀ o,w5.frozen? ⟨mb,o,none⟩=false:=xap (by rw[hb5.block _ hmbl];exact hM2.box)
  have c51:=(hSl _ hb4).2.1;have c5:w5.cell? ⟨mb,1,none⟩=some (.slice ah m.heap.length ch):=by rw[qzB (show w5.heap[mb]?=_ by rw[hb5.block _ hmbl];exact hM2.box)];rfl
  have hS5:w5.cell? ⟨mb,0,none⟩=some (.slice ac p.X.cz.length cc)/\w5.cell? ⟨mb,1,none⟩=some (.slice ah m.heap.length ch)/\w5.cell? ⟨mb,2,none⟩=some (.int .i64 p.X.ez)/\w5.cell? ⟨wr.heap.size,1,none⟩=some (.int .i64 x.a):=by
   have hc:∀ (b o:Nat) v,b<U.heap.size->U.cell? ⟨b,o,none⟩=some v->w5.cell? ⟨b,o,none⟩=some v:=fun b o v hb h=>by
    unfold World.cell? at h ⊢;rw[hb5.block b hb];exact h
   obtain⟨y0,y1,y2,y3⟩:=hSl _ (qzL _ U)
   exact⟨hc _ _ _ hmbl y0,hc _ _ _ hmbl y1,hc _ _ _ hmbl y2,hc _ _ _ (World.block_lt_of_cell? U ⟨wr.heap.size,1,none⟩ y3) y3⟩
  refine xaw rfl (.tmp 168) (.tmp 180) 23 rfl (.slice (some ⟨g,0,none⟩) m.heap.length cap1) (.slice (some ⟨w2.heap.size+1,0,none⟩) 1 1) (.slice a5 (m.heap.length+1) cap5) (by simp[Act.eval,Act.put]) (by simp[Act.eval,Act.put]) hrun5 ?_
  refine hK _ _ (fun _=>hS5) ?_
  clear hK K'
  try simp only[Act.put,qzF,qzG,qzH]
  refine tk 21 _ (.pointer (some ⟨mb,0,none⟩)) rfl (hS5) (fun _ _ _ h=>h) rfl (by kernel_rfl) ?_ ?_
  ·rintro w⟨q0,q1,q2,q3⟩;go_simp
  try simp only[Act.put,qzF,qzG,qzH]
  refine tk 22 _ (.pointer (some ⟨mb,0,none⟩)) rfl (hS5) (fun _ _ _ h=>h) rfl (by kernel_rfl) ?_ ?_
  ·rintro w⟨q0,q1,q2,q3⟩;go_simp
  try simp only[Act.put,qzF,qzG,qzH]
  refine tk 23 _ (.pointer (some ⟨mb,1,none⟩)) rfl (hS5) (fun _ _ _ h=>h) rfl (by kernel_rfl) ?_ ?_
  ·rintro w⟨q0,q1,q2,q3⟩;go_simp
  try simp only[Act.put,qzF,qzG,qzH]
  refine xab (rs:=[24]) (by kernel_rfl) (by simp) ?_
  intro i hi;simp only[List.mem_cons,List.not_mem_nil,or_false] at hi;subst hi;refine xaN (o:=_) rfl (fun K' hK=>?_)
  go_simp;refine hK _ _ (fun h=>absurd h (by decide)) ?_
  clear hK K'
  try simp only[Act.put,qzF,qzG,qzH]
  refine xaz (by kernel_rfl) ?_ _
  try simp only[Act.put,qzF,qzG,qzH]
  obtain⟨f1,f2⟩:=xqZ (c:=x.a) hM2 hcs hb4 hvb hvw hvg r1 r3 r4 (by omega) (by omega)
  have hE':Ext T1 (xaF T2 U 0) wr:=E1.out.trans E3.out.size (xaq T2 U 0);have hFU:=E2.out.keep (xaq T2 U 0) f2 (by omega) (by omega) (by omega) (by omega) (by omega)
  have hKK:Kp (All K) T1 wr _:=(xd0 E3.out fun t ht=>by omega).trans E1.out (xd0 f2 fun t ht=>by omega)
  have HE':=hid hE';have HFU:=hid hFU;have HKK:=hid hKK;have F1:=hid f1;have HSL:=hid hsl;clear hE' hFU hKK f1 f2 hsl;go_wp2
  exact Or.inl ⟨rfl,xn7 hX HR.out HG.out HX.out HOP.out H6.out HSL.out (by omega) HL.out HE'.out HKK.out F1.out HFU.out⟩
set_option maxRecDepth 8000
theorem xiU {xs:List QC}{k:Int}{name:ByteArray}(h:0<=(xaB xs k name).2):∃ mt,xaI xs (xaB xs k name).1 (xaB xs k name).2=some mt:=by
 rw[xhw] at h ⊢;generalize xdB xs (xs.length+1) k=l at *;have h1:=xhC l h;unfold xaI;simp only[if_pos h];unfold xbG at h1
 cases hx:xbx xs (xcJ xs name l).1 with
 | none=>rw[hx] at h1;simp[xcw,xcP] at h1;omega
 | some x=>
  rw[hx] at h1;simp only[Option.map_some,Option.getD_some] at h1;unfold xcw xcP at h1
  cases hf:x.mz.findIdx? (fun m=>eqN m.name name) with
  | none=>rw[hf] at h1;simp at h1;omega
  | some j=>
   rw[hf] at h1
   simp at h1
   rw[List.findIdx?_eq_some_iff_getElem] at hf;obtain⟨hj,-⟩:=hf;refine⟨x.mz[j],?_⟩;rw[h1]
   simp[hj]
theorem sd41 {W wz:World}{g xb cap' B n:Nat}{args:List QV}(xv:QV)(hb:Below W.heap.size W wz)(hown:wz.ownsRow B 27 2 (.slice (some ⟨g,0,none⟩) n cap') n (xam args))(hn:args.length=n)(hnl:n<=1000000)(hB:W.heap.size<=B)(hxb:W.heap.size<=xb)(hne:xb≠g)(hx:wz.heap[xb]?=some (.cells #[.int .i64 0,.int .i64 0] 27 (0,0))) :
  Below W.heap.size W ((wz.setCell ⟨xb,0,none⟩ (.int .i64 xv.k)).setCell ⟨xb,1,none⟩ (.int .i64 xv.n))/\((wz.setCell ⟨xb,0,none⟩ (.int .i64 xv.k)).setCell ⟨xb,1,none⟩ (.int .i64 xv.n)).heap[xb]?=some (.cells #[.int .i64 xv.k,.int .i64 xv.n] 27 (0,0))/\xaO (fun b=>W.heap.size<=b/\b<((wz.setCell ⟨xb,0,none⟩ (.int .i64 xv.k)).setCell ⟨xb,1,none⟩ (.int .i64 xv.n)).heap.size) ((wz.setCell ⟨xb,0,none⟩ (.int .i64 xv.k)).setCell ⟨xb,1,none⟩ (.int .i64 xv.n)) (.slice (some ⟨g,0,none⟩) n cap') args:=by
 have hrow:((wz.setCell ⟨xb,0,none⟩ (.int .i64 xv.k)).setCell ⟨xb,1,none⟩ (.int .i64 xv.n)).heap[xb]?=some (.cells #[.int .i64 xv.k,.int .i64 xv.n] 27 (0,0)):=by
  rw[xag (xag hx _)];rfl
 have h1:=ownsRow_setCell_other (ownsRow_setCell_other hown (a:=⟨xb,0,none⟩) (by simp[Value.ownBlock];omega) (.int .i64 xv.k)) (a:=⟨xb,1,none⟩) (by simp[Value.ownBlock];omega) (.int .i64 xv.n)
 refine⟨(hb.setCell hxb _).setCell hxb _,hrow,?_⟩;generalize ((wz.setCell ⟨xb,0,none⟩ (.int .i64 xv.k)).setCell ⟨xb,1,none⟩ (.int .i64 xv.n))=V at *
 have hc:Cells xpo 2 (fun b=>W.heap.size<=b/\b<V.heap.size) V (xam args) args:=⟨xbA _,fun i y hy=>by
  obtain⟨d1,d2⟩:=xbZ hy
  exact⟨by simpa using d1,d2⟩⟩
 exact xf3 xa1 h1 hc hn (fun b h1 h2=>⟨by omega,h2⟩) (by omega)
structure SdA (wr V:World)(f:Fr)(x:QI)(nn na xb:Nat)(asv:Value)(xv:QV):Prop where
 bel:Below wr.heap.size wr V
 inb:InB V wr.heap.size x
 xc:V.heap[xb]?=some (.cells #[.int .i64 xv.k,.int .i64 xv.n] 27 (0,0))
 lo:wr.heap.size<=xb/\wr.heap.size<V.heap.size
 args:xaO (fun b=>wr.heap.size<=b/\b<V.heap.size) V asv (f.stack.drop (nn+1))
 hna:x.a=(na:Int)
 len:f.stack.length=nn+1+na
 hxv:f.stack[nn]?=some xv
structure SdB (p:Rp)(d:Nat)(mb K B b0 xb:Nat)(T:Nat->Nat)(U:World)(m:Mc RSt)(err:Int)(f:Fr)(name:ByteArray)(xv:QV)(args:List QV)(asv av kv st hv sv ov:Value):Prop where
 mac:RMac p T U mb m (20-(d:Int)) err hv sv ov
 fr:RF T K U B f av kv st
 nm:U.cell? ⟨b0,4,none⟩=some (.string name)
 tn:T b0=0
 x:U.heap[xb]?=some (.cells #[.int .i64 xv.k,.int .i64 xv.n] 27 (0,0))
 tx:T xb=0
 args:xaO (Fx T U) U asv args
section
variable {p:Rp} {d:Nat} {mb K B b0 xb:Nat} {T T':Nat->Nat} {U U':World} {m m':Mc RSt} {err err':Int} {f f':Fr} {name:ByteArray} {xv:QV} {args:List QV} {asv av kv st hv sv ov hv' sv' ov':Value}
theorem SdB.keep {S:Nat->Prop}(h:SdB p d mb K B b0 xb T U m err f name xv args asv av kv st hv sv ov)(e:Ext T T' U)(k:Kp S T U U')(h0:¬ S 0)(h4:¬ S 4)(hK:¬ S K)(h1:¬ S (K+1))(h2:¬ S (K+2))(hM:RMac p T' U' mb m' (20-(d:Int)) err' hv' sv' ov'):SdB p d mb K B b0 xb T' U' m' err' f name xv args asv av kv st hv' sv' ov':=
 ⟨hM,h.fr.keep e k h0 h4 hK h1 h2,k.cell h.nm (by rw[h.tn];exact h0),by rw[e _ (World.block_lt_of_cell? U ⟨b0,4,none⟩ h.nm)];exact h.tn,k.held h.x (by rw[h.tx];exact h0),by rw[e _ (xal h.x)];exact h.tx,h.args.fx xa1 e k h0⟩
theorem SdB.later (h:SdB p d mb K B b0 xb T U m err f name xv args asv av kv st hv sv ov)(hb:Below U.heap.size U U'):SdB p d mb K B b0 xb T U' m err f name xv args asv av kv st hv sv ov:=h.keep (S:=fun _=>False) (.refl _ _) (.of_below hb) id id id id id (h.mac.later hb)
theorem SdB.x0 (h:SdB p d mb K B b0 xb T U m err f name xv args asv av kv st hv sv ov):U.cell? ⟨xb,0,none⟩=some (.int .i64 xv.k):=by rw[qzB h.x];rfl
theorem SdB.x1 (h:SdB p d mb K B b0 xb T U m err f name xv args asv av kv st hv sv ov):U.cell? ⟨xb,1,none⟩=some (.int .i64 xv.n):=by rw[qzB h.x];rfl
theorem sd42 {wr w V:World}{x:QI}{nn na:Nat}{sa:Option Addr}{sc:Nat}(hM:RMac p T wr mb m (20-(d:Int)) 0 hv sv ov)(hF:RF T K wr w.heap.size f av kv (.slice sa f.stack.length sc))(hA:SdA wr V f x nn na xb asv xv) :
  SdB p d mb K w.heap.size wr.heap.size xb (xaF T wr 0) (V.setCell ⟨w.heap.size+4,0,none⟩ (.slice sa nn sc)) m 0 { f with stack:=f.stack.take nn } x.name xv (f.stack.drop (nn+1)) asv av kv (.slice sa nn sc) hv sv ov/\Kp (fun t=>t=K) T wr (V.setCell ⟨w.heap.size+4,0,none⟩ (.slice sa nn sc)):=by
 have hp:=hF.pos;have hlt:=xal hF.sb;have hlm:=xal hM.box;obtain⟨hl1,hl2⟩:=hA.lo;have hlen:=hA.len;have ex:=xaq T wr 0;have hMV:=hM.keep (S:=fun _=>False) ex (.of_below hA.bel) id id id id
 have hFV:=hF.keep (S:=fun _=>False) ex (.of_below hA.bel) id id id id id
 have hk:Kp (fun t=>t=K) (xaF T wr 0) V (V.setCell ⟨w.heap.size+4,0,none⟩ (.slice sa nn sc)):=(Kp.refl _ _ _).set (fun _=>hFV.t4) _ _
 have hF2:=hFV.cut (n:=nn) (by omega) hk (xmF hFV.sb _)
 have hM2:=hMV.keep (.refl _ _) hk (by omega) (by omega) (by omega) (by omega)
 refine⟨⟨hM2,hF2,hk.cell hA.inb.x4 (by rw[xaJ (qzC _)];omega),xaJ (qzC _),hk.held hA.xc (by rw[xaJ hl1];omega),xaJ hl1,?_⟩,(Kp.of_below hA.bel).trans ex hk⟩
 exact hA.args.keep xa1 (Keeps.of_block fun b hb _=>xac (by omega) _) fun b hb=>⟨qzE hb.2 hk.size,xaJ hb.1⟩
theorem xjC (h:RMac p T U mb m (20-(d:Int)) err hv sv ov){wz w12 w18:World}(hbz:Below U.heap.size U wz)(r4:∀ b,b<wz.heap.size->some b≠sv.ownBlock->w12.heap[b]?=wz.heap[b]?)(hb18:Below w12.heap.size w12 w18)(hz:wz.heap.size<=w12.heap.size):ownsAt w18 0 3 1 ov m.st.length (xcC m.st):=by
 refine h.of.keep fun g hg=>?_
 have hl:=(h.of.lt g hg).2;have hs:=hbz.size;rw[hb18.block g (by omega),r4 g (by omega) (fun e=>by have:=h.stag g e.symm;rw[h.otag g hg] at this;omega),hbz.block g hl]
theorem xgA (h:RMac p T U mb m (20-(d:Int)) 0 hv sv ov){wz w12 w18 w19:World}{q:QS × Int}(hbz:Below U.heap.size U wz)
  (r1:ownsAt w12 0 63 3 sv' (m.st.length+1) (xcS m.st++[.int .i64 q.1.cls,.string q.1.name,.int .i64 q.1.at'])) (r2:sv'.ownBlock=sv.ownBlock\/∃ g,sv'.ownBlock=some g/\wz.heap.size<=g) (r3:Below 0 wz w12) (r4:∀ b,b<wz.heap.size->some b≠sv.ownBlock->w12.heap[b]?=wz.heap[b]?) (hb18:Below w12.heap.size w12 w18)
  (s1:ownsAt w19 0 3 1 ov' (m.st.length+1) (xcC m.st++[.int .i64 q.2])) (s2:ov'.ownBlock=ov.ownBlock\/∃ g,ov'.ownBlock=some g/\w18.heap.size<=g) (s3:Below 0 w18 w19) (s4:∀ b,b<w18.heap.size->some b≠ov.ownBlock->w19.heap[b]?=w18.heap[b]?) :
  (∃ T',Ext T T' U/\RMac p T' ((w19.setCell ⟨mb,8,none⟩ sv').setCell ⟨mb,9,none⟩ ov') mb { m with st:=m.st++[q] } (20-(d:Int)) 0 hv sv' ov')/\Kp (fun t=>t=1\/t=2\/t=3) T U ((w19.setCell ⟨mb,8,none⟩ sv').setCell ⟨mb,9,none⟩ ov'):=by
 have hlm:=xal h.box;have z1:=hbz.size;have z2:=r3.size;have z3:=hb18.size;have z4:=s3.size;have hso:∀ g,sv.ownBlock=some g->g<U.heap.size:=fun g hg=>(h.sites.lt g hg).2
 have hoo:∀ g,ov.ownBlock=some g->g<U.heap.size:=fun g hg=>(h.of.lt g hg).2
 have k0:Kp (fun t=>t=1\/t=2\/t=3) T U w19:=⟨s3.os.trans (hb18.os.trans (r3.os.trans hbz.os)),s3.tape.trans (hb18.tape.trans (r3.tape.trans hbz.tape)),s3.output.trans (hb18.output.trans (r3.output.trans hbz.output)),by omega,fun b hb hs=>by
  rw[s4 b (by omega) (fun e=>hs (Or.inr (Or.inr (h.otag b e.symm)))),hb18.block b (by omega),r4 b (by omega) (fun e=>hs (Or.inr (Or.inl (h.stag b e.symm)))),hbz.block b hb]⟩
 have k1:Kp (fun t=>t=1\/t=2\/t=3) T U ((w19.setCell ⟨mb,8,none⟩ sv').setCell ⟨mb,9,none⟩ ov'):=(k0.set (fun _=>Or.inl h.tag) _ _).set (fun _=>Or.inl h.tag) _ _
 refine⟨?_,k1⟩
 have hbox:w19.heap[mb]?=some (RB p m (20-(d:Int)) 0 hv sv ov):=by
  rw[s4 mb (by omega) (fun e=>by have:=h.otag mb e.symm;rw[h.tag] at this;omega),hb18.block mb (by omega),r4 mb (by omega) (fun e=>by have:=h.stag mb e.symm;rw[h.tag] at this;omega),hbz.block mb hlm];exact h.box
 have hb':((w19.setCell ⟨mb,8,none⟩ sv').setCell ⟨mb,9,none⟩ ov').heap[mb]?=some (RB p { m with st:=m.st++[q] } (20-(d:Int)) 0 hv sv' ov'):=xqA (xqg hbox sv') _ _
 have hsb:∀ g,sv'.ownBlock=some g->g≠mb/\some g≠ov'.ownBlock/\some g≠ov.ownBlock/\g<w12.heap.size/\(g<U.heap.size->T g=2):=fun g hg=>by
  have hlt:=(r1.lt g hg).2
  rcases r2 with e | ⟨g',e,hg'⟩
  ·rw[e] at hg;have t:=h.stag g hg;have hl:=hso g hg;refine⟨fun e=>by rw[e,h.tag] at t;omega,fun e=>?_,fun e=>by have:=h.otag g e.symm;omega,hlt,fun _=>t⟩
   rcases s2 with e2 | ⟨g2,e2,hg2⟩
   ·have:=h.otag g (by rw[← e2];exact e.symm);omega
   ·rw[e2] at e;cases e;omega
  ·rw[e] at hg;cases hg;refine⟨by omega,fun e=>?_,fun e=>by have:=hoo g e.symm;omega,hlt,fun h=>by omega⟩
   rcases s2 with e2 | ⟨g2,e2,hg2⟩
   ·have:=hoo g (by rw[← e2];exact e.symm);omega
   ·rw[e2] at e;cases e;omega
 have hob:∀ g,ov'.ownBlock=some g->g≠mb/\(g<U.heap.size->T g=3):=fun g hg=>by
  rcases s2 with e | ⟨g',e,hg'⟩
  ·rw[e] at hg;have t:=h.otag g hg
   exact⟨fun e=>by rw[e,h.tag] at t;omega,fun _=>t⟩
  ·rw[e] at hg;cases hg
   exact⟨by omega,fun h=>by omega⟩
 have hr1:ownsAt ((w19.setCell ⟨mb,8,none⟩ sv').setCell ⟨mb,9,none⟩ ov') 0 63 3 sv' (m.st.length+1) (xcS m.st++[.int .i64 q.1.cls,.string q.1.name,.int .i64 q.1.at']):=r1.keep fun g hg=>by
  obtain⟨a1,a2,a3,a4,-⟩:=hsb g hg;rw[xac a1,xac a1,s4 g (by omega) a3,hb18.block g a4]
 have hs1:ownsAt ((w19.setCell ⟨mb,8,none⟩ sv').setCell ⟨mb,9,none⟩ ov') 0 3 1 ov' (m.st.length+1) (xcC m.st++[.int .i64 q.2]):=s1.keep fun g hg=>by
  rw[xac (hob g hg).1,xac (hob g hg).1]
 generalize ((w19.setCell ⟨mb,8,none⟩ sv').setCell ⟨mb,9,none⟩ ov')=V at *
 obtain⟨T',hT,hT2,hT3⟩:∃ T',Ext T T' U/\(∀ g,sv'.ownBlock=some g->T' g=2)/\(∀ g,ov'.ownBlock=some g->T' g=3):=by
  refine⟨fun b=>if b<U.heap.size then T b else if sv'.ownBlock=some b then 2 else 3,fun b hb=>by simp only[if_pos hb],fun g hg=>?_,fun g hg=>?_⟩
  ·by_cases hl:g<U.heap.size
   ·simp only[if_pos hl];exact (hsb g hg).2.2.2.2 hl
   ·simp only[if_neg hl,if_pos hg]
  ·by_cases hl:g<U.heap.size
   ·simp only[if_pos hl];exact (hob g hg).2 hl
   ·simp only[if_neg hl];rw[if_neg (fun e=>(hsb g e).2.1 hg.symm)]
 refine⟨T',hT,hb',by rw[hT _ hlm];exact h.tag,h.cls.fx xaA hT k1 (by omega),h.heap.fx xaE hT k1 (by omega),?_,hT2,?_,hT3⟩
 ·rw[xeS,List.length_append];exact hr1
 ·rw[xeT,List.length_append];exact hs1
end
section
variable {p:Rp} {d:Nat} {T T1 T2:Nat->Nat} {w wr w2:World} {mb K:Nat} {R:Mc RSt × QV × Int} {av kv:Value} {gk:Nat} {at' at2:Value} {m:Mc RSt} {f:Fr}
variable {c:Int} {n1 n2 n3 G' k:Nat} {x:QI} {hv sv ov st st':Value} {U w':World}
theorem xox (hx:NxOk f k x)(hop:x.op=14)(hfast:f.fast=false)(hc:f.cls=c){nn na:Nat}(hna:x.a=(na:Int))(hlen:f.stack.length=nn+1+na){xv:QV}(hxv:f.stack[nn]?=some xv){kl:Int}(hkl:xas m.heap xv=kl){r:Mc RSt × QV × Int}(hr:xa4 p.E d { m with st:=m.st++[(⟨c,f.meth.name,(k:Int)⟩,kl)] } (xaB p.X.cz kl x.name).1 (xaB p.X.cz kl x.name).2 xv (f.stack.drop (nn+1))=r) :
  xaj (xa4 p.E d) p.E d m { f with pc:=f.pc+1 } f.pc x=if r.2.2≠0 then (r.1,{ f with pc:=f.pc+1 },r.2.2) else (r.1,{ f with pc:=f.pc+1,stack:=f.stack.take nn++[r.2.1] },0):=by
 have hk:xbp f.stack x.a=nn+1:=by unfold xbp;rw[hna];omega
 have hb:xaQ (f.stack.take (nn+1)) 0=xv:=by
  unfold xaQ xaM;have hl:(f.stack.take (nn+1)).length=nn+1:=by rw[List.length_take];omega
  rw[hl,if_neg (by omega),show (((nn+1:Nat):Int)-1-0).toNat=nn by omega,List.getElem?_take,if_pos (by omega),hxv]
  rfl
 have hd:(f.stack.take (nn+1)).dropLast=f.stack.take nn:=by
  have hl:(f.stack.take (nn+1)).length=nn+1:=by rw[List.length_take];omega
  rw[List.dropLast_eq_take,hl,List.take_take]
  congr 1
  omega
 rw[xbX _ _ (by omega)];unfold xcG;rw[if_neg (by omega),if_neg (by omega),if_neg (by omega),if_neg (by omega),if_neg (by omega),if_pos hop]
 unfold xbD;simp only[hk,hb,hkl,hd]
 have hs:Fr.site { f with pc:=f.pc+1 } f.pc x=⟨c,f.meth.name,(k:Int)⟩:=by
  unfold Fr.site;simp only[hfast,hc,hx.pc];rfl
 rw[hs]
 show (if (xa4 p.E d { m with st:=m.st++[(⟨c,f.meth.name,(k:Int)⟩,kl)] } (xaB p.X.cz kl x.name).1 (xaB p.X.cz kl x.name).2 xv (f.stack.drop (nn+1))).2.2≠0 then _ else _)=_
 rw[show xa4 p.E d { heap:=m.heap,sz_:=m.sz_,tz:=m.tz,st:=(p.E.look m.st ⟨c,f.meth.name,(k:Int)⟩ kl x.name).1 } (p.E.look m.st ⟨c,f.meth.name,(k:Int)⟩ kl x.name).2.1 (p.E.look m.st ⟨c,f.meth.name,(k:Int)⟩ kl x.name).2.2 xv (f.stack.drop (nn+1))=r from hr]
 rw[hr]
theorem xkw (hX:Rx p)(hR:BdR p d T w mb K R av kv gk at' T1 m f 0 wr)(hg:gk=G'+1)(hx:NxOk f k x)(hop:x.op=14)(hL:xj9 c n1 n2 n3 f){r:Mc RSt × QV × Int}{nn:Nat}(hr:xaj (xa4 p.E d) p.E d m { f with pc:=f.pc+1 } f.pc x=if r.2.2≠0 then (r.1,{ f with pc:=f.pc+1 },r.2.2) else (r.1,{ f with pc:=f.pc+1,stack:=f.stack.take nn++[r.2.1] },0)){W2:World}(hE:Ext T1 T2 wr)(hK:Kp (All K) T1 wr W2)(hM:RMac p T2 W2 mb r.1 (20-(d:Int)) r.2.2 hv sv ov)(hF:r.2.2=0->RF T2 K W2 w.heap.size { f with stack:=f.stack.take nn++[r.2.1] } av kv st) :
  BdX p d T w mb K R av kv c n1 n2 n3 G' (.int .i64 ((k:Int)+1)) W2:=by
 by_cases h0:r.2.2=0
 ·rw[if_neg (by omega)] at hr
  rw[h0] at hM
  exact xcz hX hR hg hx (by omega) hr hE hK hM (fun _=>⟨_,(hF h0).at _⟩) (fun _=>by show f.pc+1=_;rw[hx.pc]) (fun _=>hL)
 ·rw[if_pos h0] at hr
  exact xcz hX hR hg hx (by omega) hr hE hK hM (fun h=>absurd h h0) (fun h=>absurd h h0) (fun h=>absurd h h0)
theorem xkj {at2':Int}(hj:¬ 0<=(xaB p.X.cz at2' x.name).2){m4:Mc RSt}{xv:QV}{args:List QV}:xa4 p.E d m4 (xaB p.X.cz at2' x.name).1 (xaB p.X.cz at2' x.name).2 xv args=(m4,xaU,10):=by
 have h:xaI p.E.cz (xaB p.X.cz at2' x.name).1 (xaB p.X.cz at2' x.name).2=none:=by
  unfold xaI;simp only[if_neg hj]
  cases xbx p.E.cz (xaB p.X.cz at2' x.name).1<;>rfl
 cases d<;>(unfold xa4 xbc;rw[h])
end
end Go.Proofs.YtaodadfahifbpaaGreat
