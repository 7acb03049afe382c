/- A part. -/
import Derived.Test.YtapbeiccodnniaaGreatM25
namespace Go.Proofs.YtapbeiccodnniaaGreat
open Go.ChangeShapes Go.WideShapes Go.ChangeAt Go.RowKit
set_option linter.unusedSimpArgs false
set_option linter.unusedVariables false
set_option maxHeartbeats 8000000
set_option maxRecDepth 8000
theorem xiK {xs:List QC}{name:ByteArray}:∀ (l:List Int),0<=(xcZ xs name l).2->(xcZ xs name l).2=xcu (xbD xs (xcZ xs name l).1) name
 | [],h=>by simp[xcZ] at h
 | k :: r,h=>by
  unfold xcZ at h ⊢
  by_cases hk:0<=xcu (xbD xs k) name
  ·rw[if_pos hk]
  ·rw[if_neg hk] at h ⊢
   exact xiK r h
theorem xgO {xs:List QC}{k:Int}{name:ByteArray}(h:0<=(xaw xs k name).2):∃ mt,xaO xs (xaw xs k name).1 (xaw xs k name).2=some mt:=by
 rw[xeo] at h ⊢;generalize xde xs (xs.length+1) k=l at *;have h1:=xiK l h;unfold xaO;simp only[if_pos h];unfold xbD at h1
 cases hx:xby xs (xcZ xs name l).1 with
 | none=>rw[hx] at h1;simp[xcu,xbt] at h1;omega
 | some x=>
  rw[hx] at h1;simp only[Option.map_some,Option.getD_some] at h1;unfold xcu xbt at h1
  cases hf:x.mz.findIdx? (fun m=>eqN m.name name) with
  | none=>rw[hf] at h1;simp at h1;omega
  | some j=>
   rw[hf] at h1
   simp at h1
   rw[List.findIdx?_eq_some_iff_getElem] at hf;obtain⟨hj,-⟩:=hf;refine⟨x.mz[j],?_⟩;rw[h1]
   simp[hj]
theorem sd41 {W wz:World}{g xb cap' B n:Nat}{args:List QV}(xv:QV)(hb:Below W.heap.size W wz)(hown:wz.ownsRow B 27 2 (.slice (some ⟨g,0,none⟩) n cap') n (xal args))(hn:args.length=n)(hnl:n<=1000000)(hB:W.heap.size<=B)(hxb:W.heap.size<=xb)(hne:xb≠g)(hx:wz.heap[xb]?=some (.cells #[.int .i64 0,.int .i64 0] 27 (0,0))) :
  Below W.heap.size W ((wz.setCell ⟨xb,0,none⟩ (.int .i64 xv.k)).setCell ⟨xb,1,none⟩ (.int .i64 xv.n))/\((wz.setCell ⟨xb,0,none⟩ (.int .i64 xv.k)).setCell ⟨xb,1,none⟩ (.int .i64 xv.n)).heap[xb]?=some (.cells #[.int .i64 xv.k,.int .i64 xv.n] 27 (0,0))/\xaB (fun b=>W.heap.size<=b/\b<((wz.setCell ⟨xb,0,none⟩ (.int .i64 xv.k)).setCell ⟨xb,1,none⟩ (.int .i64 xv.n)).heap.size) ((wz.setCell ⟨xb,0,none⟩ (.int .i64 xv.k)).setCell ⟨xb,1,none⟩ (.int .i64 xv.n)) (.slice (some ⟨g,0,none⟩) n cap') args:=by
 have hrow:((wz.setCell ⟨xb,0,none⟩ (.int .i64 xv.k)).setCell ⟨xb,1,none⟩ (.int .i64 xv.n)).heap[xb]?=some (.cells #[.int .i64 xv.k,.int .i64 xv.n] 27 (0,0)):=by
  rw[xad (xad hx _)];rfl
 have h1:=ownsRow_setCell_other (ownsRow_setCell_other hown (a:=⟨xb,0,none⟩) (by simp[Value.ownBlock];omega) (.int .i64 xv.k)) (a:=⟨xb,1,none⟩) (by simp[Value.ownBlock];omega) (.int .i64 xv.n)
 refine⟨(hb.setCell hxb _).setCell hxb _,hrow,?_⟩;generalize ((wz.setCell ⟨xb,0,none⟩ (.int .i64 xv.k)).setCell ⟨xb,1,none⟩ (.int .i64 xv.n))=V at *
 have hc:Cells xmM 2 (fun b=>W.heap.size<=b/\b<V.heap.size) V (xal args) args:=⟨xbm _,fun i y hy=>by
  obtain⟨d1,d2⟩:=xbO hy
  exact⟨by simpa using d1,d2⟩⟩
 exact xe4 xaK h1 hc hn (fun b h1 h2=>⟨by omega,h2⟩) (by omega)
structure SdA (wr V:World)(f:Fr)(x:QI)(nn na xb:Nat)(asv:Value)(xv:QV):Prop where
 bel:Below wr.heap.size wr V
 inb:InB V wr.heap.size x
 xc:V.heap[xb]?=some (.cells #[.int .i64 xv.k,.int .i64 xv.n] 27 (0,0))
 lo:wr.heap.size<=xb/\wr.heap.size<V.heap.size
 args:xaB (fun b=>wr.heap.size<=b/\b<V.heap.size) V asv (f.stack.drop (nn+1))
 hna:x.a=(na:Int)
 len:f.stack.length=nn+1+na
 hxv:f.stack[nn]?=some xv
structure SdB (p:Rp)(d:Nat)(mb K B b0 xb:Nat)(T:Nat->Nat)(U:World)(m:Mc RSt)(err:Int)(f:Fr)(name:ByteArray)(xv:QV)(args:List QV)(asv av kv st hv sv ov:Value):Prop where
 mac:RMac p T U mb m (20-(d:Int)) err hv sv ov
 fr:RF T K U B f av kv st
 nm:U.cell? ⟨b0,4,none⟩=some (.string name)
 tn:T b0=0
 x:U.heap[xb]?=some (.cells #[.int .i64 xv.k,.int .i64 xv.n] 27 (0,0))
 tx:T xb=0
 args:xaB (Fx T U) U asv args
section
variable {p:Rp} {d:Nat} {mb K B b0 xb:Nat} {T T':Nat->Nat} {U U':World} {m m':Mc RSt} {err err':Int} {f f':Fr} {name:ByteArray} {xv:QV} {args:List QV} {asv av kv st hv sv ov hv' sv' ov':Value}
theorem SdB.keep {S:Nat->Prop}(h:SdB p d mb K B b0 xb T U m err f name xv args asv av kv st hv sv ov)(e:Ext T T' U)(k:Kp S T U U')(h0:¬ S 0)(h4:¬ S 4)(hK:¬ S K)(h1:¬ S (K+1))(h2:¬ S (K+2))(hM:RMac p T' U' mb m' (20-(d:Int)) err' hv' sv' ov'):SdB p d mb K B b0 xb T' U' m' err' f name xv args asv av kv st hv' sv' ov':=
 ⟨hM,h.fr.keep e k h0 h4 hK h1 h2,k.cell h.nm (by rw[h.tn];exact h0),by rw[e _ (World.block_lt_of_cell? U ⟨b0,4,none⟩ h.nm)];exact h.tn,k.held h.x (by rw[h.tx];exact h0),by rw[e _ (xaf h.x)];exact h.tx,h.args.fx xaK e k h0⟩
theorem SdB.later (h:SdB p d mb K B b0 xb T U m err f name xv args asv av kv st hv sv ov)(hb:Below U.heap.size U U'):SdB p d mb K B b0 xb T U' m err f name xv args asv av kv st hv sv ov:=h.keep (S:=fun _=>False) (.refl _ _) (.of_below hb) id id id id id (h.mac.later hb)
theorem SdB.x0 (h:SdB p d mb K B b0 xb T U m err f name xv args asv av kv st hv sv ov):U.cell? ⟨xb,0,none⟩=some (.int .i64 xv.k):=by rw[qzB h.x];rfl
theorem SdB.x1 (h:SdB p d mb K B b0 xb T U m err f name xv args asv av kv st hv sv ov):U.cell? ⟨xb,1,none⟩=some (.int .i64 xv.n):=by rw[qzB h.x];rfl
theorem sd42 {wr w V:World}{x:QI}{nn na:Nat}{sa:Option Addr}{sc:Nat}(hM:RMac p T wr mb m (20-(d:Int)) 0 hv sv ov)(hF:RF T K wr w.heap.size f av kv (.slice sa f.stack.length sc))(hA:SdA wr V f x nn na xb asv xv) :
  SdB p d mb K w.heap.size wr.heap.size xb (xau T wr 0) (V.setCell ⟨w.heap.size+4,0,none⟩ (.slice sa nn sc)) m 0 { f with stack:=f.stack.take nn } x.name xv (f.stack.drop (nn+1)) asv av kv (.slice sa nn sc) hv sv ov/\Kp (fun t=>t=K) T wr (V.setCell ⟨w.heap.size+4,0,none⟩ (.slice sa nn sc)):=by
 have hp:=hF.pos;have hlt:=xaf hF.sb;have hlm:=xaf hM.box;obtain⟨hl1,hl2⟩:=hA.lo;have hlen:=hA.len;have ex:=xao T wr 0;have hMV:=hM.keep (S:=fun _=>False) ex (.of_below hA.bel) id id id id
 have hFV:=hF.keep (S:=fun _=>False) ex (.of_below hA.bel) id id id id id
 have hk:Kp (fun t=>t=K) (xau T wr 0) V (V.setCell ⟨w.heap.size+4,0,none⟩ (.slice sa nn sc)):=(Kp.refl _ _ _).set (fun _=>hFV.t4) _ _
 have hF2:=hFV.cut (n:=nn) (by omega) hk (xkK hFV.sb _)
 have hM2:=hMV.keep (.refl _ _) hk (by omega) (by omega) (by omega) (by omega)
 refine⟨⟨hM2,hF2,hk.cell hA.inb.x4 (by rw[xav (qzC _)];omega),xav (qzC _),hk.held hA.xc (by rw[xav hl1];omega),xav hl1,?_⟩,(Kp.of_below hA.bel).trans ex hk⟩
 exact hA.args.keep xaK (Keeps.of_block fun b hb _=>xab (by omega) _) fun b hb=>⟨qzE hb.2 hk.size,xav hb.1⟩
theorem xhF (h:RMac p T U mb m (20-(d:Int)) err hv sv ov){wz w12 w18:World}(hbz:Below U.heap.size U wz)(r4:∀ b,b<wz.heap.size->some b≠sv.ownBlock->w12.heap[b]?=wz.heap[b]?)(hb18:Below w12.heap.size w12 w18)(hz:wz.heap.size<=w12.heap.size):ownsAt w18 0 3 1 ov m.st.length (xcw m.st):=by
 refine h.of.keep fun g hg=>?_
 have hl:=(h.of.lt g hg).2;have hs:=hbz.size;rw[hb18.block g (by omega),r4 g (by omega) (fun e=>by have:=h.stag g e.symm;rw[h.otag g hg] at this;omega),hbz.block g hl]
theorem xeU (h:RMac p T U mb m (20-(d:Int)) 0 hv sv ov){wz w12 w18 w19:World}{q:QS × Int}(hbz:Below U.heap.size U wz)
  (r1:ownsAt w12 0 67 3 sv' (m.st.length+1) (xcG m.st++[.int .i64 q.1.cls,.string q.1.name,.int .i64 q.1.at'])) (r2:sv'.ownBlock=sv.ownBlock\/∃ g,sv'.ownBlock=some g/\wz.heap.size<=g) (r3:Below 0 wz w12) (r4:∀ b,b<wz.heap.size->some b≠sv.ownBlock->w12.heap[b]?=wz.heap[b]?) (hb18:Below w12.heap.size w12 w18)
  (s1:ownsAt w19 0 3 1 ov' (m.st.length+1) (xcw m.st++[.int .i64 q.2])) (s2:ov'.ownBlock=ov.ownBlock\/∃ g,ov'.ownBlock=some g/\w18.heap.size<=g) (s3:Below 0 w18 w19) (s4:∀ b,b<w18.heap.size->some b≠ov.ownBlock->w19.heap[b]?=w18.heap[b]?) :
  (∃ T',Ext T T' U/\RMac p T' ((w19.setCell ⟨mb,8,none⟩ sv').setCell ⟨mb,9,none⟩ ov') mb { m with st:=m.st++[q] } (20-(d:Int)) 0 hv sv' ov')/\Kp (fun t=>t=1\/t=2\/t=3) T U ((w19.setCell ⟨mb,8,none⟩ sv').setCell ⟨mb,9,none⟩ ov'):=by
 have hlm:=xaf h.box;have z1:=hbz.size;have z2:=r3.size;have z3:=hb18.size;have z4:=s3.size;have hso:∀ g,sv.ownBlock=some g->g<U.heap.size:=fun g hg=>(h.sites.lt g hg).2
 have hoo:∀ g,ov.ownBlock=some g->g<U.heap.size:=fun g hg=>(h.of.lt g hg).2
 have k0:Kp (fun t=>t=1\/t=2\/t=3) T U w19:=⟨s3.os.trans (hb18.os.trans (r3.os.trans hbz.os)),s3.tape.trans (hb18.tape.trans (r3.tape.trans hbz.tape)),s3.output.trans (hb18.output.trans (r3.output.trans hbz.output)),by omega,fun b hb hs=>by
  rw[s4 b (by omega) (fun e=>hs (Or.inr (Or.inr (h.otag b e.symm)))),hb18.block b (by omega),r4 b (by omega) (fun e=>hs (Or.inr (Or.inl (h.stag b e.symm)))),hbz.block b hb]⟩
 have k1:Kp (fun t=>t=1\/t=2\/t=3) T U ((w19.setCell ⟨mb,8,none⟩ sv').setCell ⟨mb,9,none⟩ ov'):=(k0.set (fun _=>Or.inl h.tag) _ _).set (fun _=>Or.inl h.tag) _ _
 refine⟨?_,k1⟩
 have hbox:w19.heap[mb]?=some (RB p m (20-(d:Int)) 0 hv sv ov):=by
  rw[s4 mb (by omega) (fun e=>by have:=h.otag mb e.symm;rw[h.tag] at this;omega),hb18.block mb (by omega),r4 mb (by omega) (fun e=>by have:=h.stag mb e.symm;rw[h.tag] at this;omega),hbz.block mb hlm];exact h.box
 have hb':((w19.setCell ⟨mb,8,none⟩ sv').setCell ⟨mb,9,none⟩ ov').heap[mb]?=some (RB p { m with st:=m.st++[q] } (20-(d:Int)) 0 hv sv' ov'):=xnq (xnH hbox sv') _ _
 have hsb:∀ g,sv'.ownBlock=some g->g≠mb/\some g≠ov'.ownBlock/\some g≠ov.ownBlock/\g<w12.heap.size/\(g<U.heap.size->T g=2):=fun g hg=>by
  have hlt:=(r1.lt g hg).2
  rcases r2 with e | ⟨g',e,hg'⟩
  ·rw[e] at hg;have t:=h.stag g hg;have hl:=hso g hg;refine⟨fun e=>by rw[e,h.tag] at t;omega,fun e=>?_,fun e=>by have:=h.otag g e.symm;omega,hlt,fun _=>t⟩
   rcases s2 with e2 | ⟨g2,e2,hg2⟩
   ·have:=h.otag g (by rw[← e2];exact e.symm);omega
   ·rw[e2] at e;cases e;omega
  ·rw[e] at hg;cases hg;refine⟨by omega,fun e=>?_,fun e=>by have:=hoo g e.symm;omega,hlt,fun h=>by omega⟩
   rcases s2 with e2 | ⟨g2,e2,hg2⟩
   ·have:=hoo g (by rw[← e2];exact e.symm);omega
   ·rw[e2] at e;cases e;omega
 have hob:∀ g,ov'.ownBlock=some g->g≠mb/\(g<U.heap.size->T g=3):=fun g hg=>by
  rcases s2 with e | ⟨g',e,hg'⟩
  ·rw[e] at hg;have t:=h.otag g hg
   exact⟨fun e=>by rw[e,h.tag] at t;omega,fun _=>t⟩
  ·rw[e] at hg;cases hg
   exact⟨by omega,fun h=>by omega⟩
 have hr1:ownsAt ((w19.setCell ⟨mb,8,none⟩ sv').setCell ⟨mb,9,none⟩ ov') 0 67 3 sv' (m.st.length+1) (xcG m.st++[.int .i64 q.1.cls,.string q.1.name,.int .i64 q.1.at']):=r1.keep fun g hg=>by
  obtain⟨a1,a2,a3,a4,-⟩:=hsb g hg;rw[xab a1,xab a1,s4 g (by omega) a3,hb18.block g a4]
 have hs1:ownsAt ((w19.setCell ⟨mb,8,none⟩ sv').setCell ⟨mb,9,none⟩ ov') 0 3 1 ov' (m.st.length+1) (xcw m.st++[.int .i64 q.2]):=s1.keep fun g hg=>by
  rw[xab (hob g hg).1,xab (hob g hg).1]
 generalize ((w19.setCell ⟨mb,8,none⟩ sv').setCell ⟨mb,9,none⟩ ov')=V at *
 obtain⟨T',hT,hT2,hT3⟩:∃ T',Ext T T' U/\(∀ g,sv'.ownBlock=some g->T' g=2)/\(∀ g,ov'.ownBlock=some g->T' g=3):=by
  refine⟨fun b=>if b<U.heap.size then T b else if sv'.ownBlock=some b then 2 else 3,fun b hb=>by simp only[if_pos hb],fun g hg=>?_,fun g hg=>?_⟩
  ·by_cases hl:g<U.heap.size
   ·simp only[if_pos hl];exact (hsb g hg).2.2.2.2 hl
   ·simp only[if_neg hl,if_pos hg]
  ·by_cases hl:g<U.heap.size
   ·simp only[if_pos hl];exact (hob g hg).2 hl
   ·simp only[if_neg hl];rw[if_neg (fun e=>(hsb g e).2.1 hg.symm)]
 refine⟨T',hT,hb',by rw[hT _ hlm];exact h.tag,h.cls.fx xaz hT k1 (by omega),h.heap.fx xaD hT k1 (by omega),?_,hT2,?_,hT3⟩
 ·rw[xdP,List.length_append];exact hr1
 ·rw[xd4,List.length_append];exact hs1
end
section
variable {p:Rp} {d:Nat} {T T1 T2:Nat->Nat} {w wr w2:World} {mb K:Nat} {R:Mc RSt × QV × Int} {av kv:Value} {gk:Nat} {at' at2:Value} {m:Mc RSt} {f:Fr}
variable {c:Int} {n1 n2 n3 G' k:Nat} {x:QI} {hv sv ov st st':Value} {U w':World}
theorem xmc (hx:NxOk f k x)(hop:x.op=14)(hfast:f.fast=false)(hc:f.cls=c){nn na:Nat}(hna:x.a=(na:Int))(hlen:f.stack.length=nn+1+na){xv:QV}(hxv:f.stack[nn]?=some xv){kl:Int}(hkl:xar m.heap xv=kl){r:Mc RSt × QV × Int}(hr:xa1 p.E d { m with st:=m.st++[(⟨c,f.meth.name,(k:Int)⟩,kl)] } (xaw p.X.cz kl x.name).1 (xaw p.X.cz kl x.name).2 xv (f.stack.drop (nn+1))=r) :
  xan (xa1 p.E d) p.E d m { f with pc:=f.pc+1 } f.pc x=if r.2.2≠0 then (r.1,{ f with pc:=f.pc+1 },r.2.2) else (r.1,{ f with pc:=f.pc+1,stack:=f.stack.take nn++[r.2.1] },0):=by
 have hk:xbu f.stack x.a=nn+1:=by unfold xbu;rw[hna];omega
 have hb:xaW (f.stack.take (nn+1)) 0=xv:=by
  unfold xaW xaM;have hl:(f.stack.take (nn+1)).length=nn+1:=by rw[List.length_take];omega
  rw[hl,if_neg (by omega),show (((nn+1:Nat):Int)-1-0).toNat=nn by omega,List.getElem?_take,if_pos (by omega),hxv]
  rfl
 have hd:(f.stack.take (nn+1)).dropLast=f.stack.take nn:=by
  have hl:(f.stack.take (nn+1)).length=nn+1:=by rw[List.length_take];omega
  rw[List.dropLast_eq_take,hl,List.take_take]
  congr 1
  omega
 rw[xbK _ _ (by omega)];unfold xcy;rw[if_neg (by omega),if_neg (by omega),if_neg (by omega),if_neg (by omega),if_neg (by omega),if_pos hop]
 unfold xcm;simp only[hk,hb,hkl,hd]
 have hs:Fr.site { f with pc:=f.pc+1 } f.pc x=⟨c,f.meth.name,(k:Int)⟩:=by
  unfold Fr.site;simp only[hfast,hc,hx.pc];rfl
 rw[hs]
 show (if (xa1 p.E d { m with st:=m.st++[(⟨c,f.meth.name,(k:Int)⟩,kl)] } (xaw p.X.cz kl x.name).1 (xaw p.X.cz kl x.name).2 xv (f.stack.drop (nn+1))).2.2≠0 then _ else _)=_
 rw[show xa1 p.E d { heap:=m.heap,sz_:=m.sz_,tz:=m.tz,st:=(p.E.look m.st ⟨c,f.meth.name,(k:Int)⟩ kl x.name).1 } (p.E.look m.st ⟨c,f.meth.name,(k:Int)⟩ kl x.name).2.1 (p.E.look m.st ⟨c,f.meth.name,(k:Int)⟩ kl x.name).2.2 xv (f.stack.drop (nn+1))=r from hr]
 rw[hr]
theorem xiG (hX:Rx p)(hR:BdR p d T w mb K R av kv gk at' T1 m f 0 wr)(hg:gk=G'+1)(hx:NxOk f k x)(hop:x.op=14)(hL:xiO c n1 n2 n3 f){r:Mc RSt × QV × Int}{nn:Nat}(hr:xan (xa1 p.E d) p.E d m { f with pc:=f.pc+1 } f.pc x=if r.2.2≠0 then (r.1,{ f with pc:=f.pc+1 },r.2.2) else (r.1,{ f with pc:=f.pc+1,stack:=f.stack.take nn++[r.2.1] },0)){W2:World}(hE:Ext T1 T2 wr)(hK:Kp (All K) T1 wr W2)(hM:RMac p T2 W2 mb r.1 (20-(d:Int)) r.2.2 hv sv ov)(hF:r.2.2=0->RF T2 K W2 w.heap.size { f with stack:=f.stack.take nn++[r.2.1] } av kv st) :
  BdX p d T w mb K R av kv c n1 n2 n3 G' (.int .i64 ((k:Int)+1)) W2:=by
 by_cases h0:r.2.2=0
 ·rw[if_neg (by omega)] at hr
  rw[h0] at hM
  exact xcj hX hR hg hx (by omega) hr hE hK hM (fun _=>⟨_,(hF h0).at _⟩) (fun _=>by show f.pc+1=_;rw[hx.pc]) (fun _=>hL)
 ·rw[if_pos h0] at hr
  exact xcj hX hR hg hx (by omega) hr hE hK hM (fun h=>absurd h h0) (fun h=>absurd h h0) (fun h=>absurd h h0)
theorem xiF {at2':Int}(hj:¬ 0<=(xaw p.X.cz at2' x.name).2){m4:Mc RSt}{xv:QV}{args:List QV}:xa1 p.E d m4 (xaw p.X.cz at2' x.name).1 (xaw p.X.cz at2' x.name).2 xv args=(m4,xaU,10):=by
 have h:xaO p.E.cz (xaw p.X.cz at2' x.name).1 (xaw p.X.cz at2' x.name).2=none:=by
  unfold xaO;simp only[if_neg hj]
  cases xby p.E.cz (xaw p.X.cz at2' x.name).1<;>rfl
 cases d<;>(unfold xa1 xbj;rw[h])
end
def xoC:Code:=(Code.region 42 #[
  ⟨some 202,.load 28 (.tmp 12),28,"ref.go:109",#[],none⟩,
  ⟨some 203,.move (.tmp 18),3,"ref.go:109",#[],none⟩,
  ⟨some 204,.binOp .sub 3 (.tmp 203) (.const (.int .i64 1)) 3,3,"ref.go:109",#[⟨1,.data⟩],none⟩,
  ⟨some 205,.slice 28 (.tmp 202) none (some (.tmp 204)) none,28,"ref.go:109",#[⟨0,.data⟩,⟨2,.data⟩],none⟩,
  ⟨none,.store 28 (.tmp 12) (.tmp 205),0,"ref.go:109",#[⟨3,.data⟩,⟨0,.phase⟩,⟨1,.phase⟩,⟨2,.phase⟩,⟨3,.phase⟩],none⟩] false)
def sd43:Code:=((Code.region 43 #[
  ⟨some 206,.move (.tmp 0),47,"ref.go:110",#[],none⟩,
  ⟨some 207,.nilCheck (.tmp 206),0,"ref.go:110",#[⟨0,.data⟩],none⟩,
  ⟨some 208,.fieldAddr 89 (.tmp 207) 0,0,"ref.go:110",#[⟨1,.data⟩],none⟩,
  ⟨some 209,.fieldAddr 25 (.tmp 208) 1,0,"ref.go:110",#[⟨2,.data⟩],none⟩,
  ⟨some 210,.load 23 (.tmp 209),23,"ref.go:110",#[⟨3,.data⟩],none⟩,
  ⟨some 211,.load 27 (.tmp 20),27,"ref.go:110",#[],none⟩,
  ⟨some 212,.call ⟨.value (.func 34),#[.tmp 210,.tmp 211],#[23,27]⟩,3,"ref.go:110",#[⟨4,.data⟩,⟨5,.data⟩],none⟩,
  ⟨some 21,.assign (.tmp 212),3,"ref.go:110",#[⟨6,.data⟩,⟨6,.chain⟩,⟨0,.phase⟩,⟨1,.phase⟩,⟨2,.phase⟩,⟨3,.phase⟩,⟨4,.phase⟩,⟨5,.phase⟩,⟨6,.phase⟩],none⟩] true).seq ((Code.region 44 #[
  ⟨some 213,.move (.tmp 0),47,"ref.go:111",#[],none⟩,
  ⟨some 214,.move (.tmp 0),47,"ref.go:111",#[⟨22,.gcOnly .lateStores⟩],none⟩,
  ⟨some 215,.move (.tmp 0),47,"ref.go:111",#[],none⟩,
  ⟨some 216,.nilCheck (.tmp 215),0,"ref.go:111",#[⟨2,.data⟩],none⟩,
  ⟨some 217,.fieldAddr 89 (.tmp 216) 6,0,"ref.go:111",#[⟨3,.data⟩],none⟩,
  ⟨some 218,.load 86 (.tmp 217),86,"ref.go:111",#[⟨4,.data⟩],none⟩,
  ⟨some 219,.move (.tmp 1),3,"ref.go:111",#[],none⟩,
  ⟨some 220,.fieldAddr 59 (.tmp 7) 0,0,"ref.go:111",#[],none⟩,
  ⟨some 221,.load 9 (.tmp 220),9,"ref.go:111",#[⟨7,.data⟩],none⟩,
  ⟨some 222,.move (.tmp 14),3,"ref.go:111",#[],none⟩,
  ⟨some 223,.build 67 #[(0,.tmp 219),(1,.tmp 221),(2,.tmp 222)],67,"ref.go:111",#[⟨6,.data⟩,⟨8,.data⟩,⟨9,.data⟩],none⟩,
  ⟨some 224,.buildSlice 86 1 #[(0,.tmp 223)],86,"ref.go:111",#[⟨10,.data⟩],none⟩,
  ⟨some 225,.call ⟨.builtin .append,#[.tmp 218,.tmp 224],#[86,86]⟩,86,"ref.go:111",#[⟨5,.data⟩,⟨11,.data⟩],none⟩,
  ⟨some 226,.move (.tmp 0),47,"ref.go:111",#[],none⟩,
  ⟨some 227,.nilCheck (.tmp 226),0,"ref.go:111",#[⟨13,.data⟩],none⟩,
  ⟨some 228,.fieldAddr 89 (.tmp 227) 7,0,"ref.go:111",#[⟨14,.data⟩],none⟩,
  ⟨some 229,.load 87 (.tmp 228),87,"ref.go:111",#[⟨15,.data⟩],none⟩,
  ⟨some 230,.move (.tmp 21),3,"ref.go:111",#[],none⟩,
  ⟨some 231,.buildSlice 87 1 #[(0,.tmp 230)],87,"ref.go:111",#[⟨17,.data⟩],none⟩,
  ⟨some 232,.call ⟨.builtin .append,#[.tmp 229,.tmp 231],#[87,87]⟩,87,"ref.go:111",#[⟨16,.data⟩,⟨18,.data⟩,⟨12,.chain⟩],none⟩,
  ⟨some 233,.nilCheck (.tmp 213),0,"ref.go:111",#[⟨0,.data⟩,⟨0,.phase⟩,⟨1,.textOnly .lateStores⟩,⟨2,.phase⟩,⟨3,.phase⟩,⟨4,.phase⟩,⟨5,.phase⟩,⟨6,.phase⟩,⟨7,.phase⟩,⟨8,.phase⟩,⟨9,.phase⟩,⟨10,.phase⟩,⟨11,.phase⟩,⟨12,.phase⟩,⟨13,.textOnly .lateStores⟩,⟨14,.textOnly .lateStoresUnsure⟩,⟨15,.textOnly .lateStoresUnsure⟩,⟨16,.phase⟩,⟨17,.textOnly .lateStores⟩,⟨18,.textOnly .lateStoresUnsure⟩,⟨19,.phase⟩],none⟩,
  ⟨some 234,.fieldAddr 89 (.tmp 233) 6,0,"ref.go:111",#[⟨20,.data⟩,⟨0,.phase⟩,⟨1,.textOnly .lateStores⟩,⟨2,.phase⟩,⟨3,.phase⟩,⟨4,.phase⟩,⟨5,.phase⟩,⟨6,.phase⟩,⟨7,.phase⟩,⟨8,.phase⟩,⟨9,.phase⟩,⟨10,.phase⟩,⟨11,.phase⟩,⟨12,.phase⟩,⟨13,.textOnly .lateStores⟩,⟨14,.textOnly .lateStoresUnsure⟩,⟨15,.textOnly .lateStoresUnsure⟩,⟨16,.phase⟩,⟨17,.textOnly .lateStores⟩,⟨18,.textOnly .lateStoresUnsure⟩,⟨19,.phase⟩],none⟩,
  ⟨none,.store 86 (.tmp 234) (.tmp 225),0,"ref.go:111",#[⟨21,.data⟩,⟨12,.data⟩,⟨19,.chain⟩,⟨0,.phase⟩,⟨1,.textOnly .lateStores⟩,⟨2,.phase⟩,⟨3,.phase⟩,⟨4,.phase⟩,⟨5,.phase⟩,⟨6,.phase⟩,⟨7,.phase⟩,⟨8,.phase⟩,⟨9,.phase⟩,⟨10,.phase⟩,⟨11,.phase⟩,⟨12,.phase⟩,⟨13,.textOnly .lateStores⟩,⟨14,.textOnly .lateStoresUnsure⟩,⟨15,.textOnly .lateStoresUnsure⟩,⟨16,.phase⟩,⟨17,.textOnly .lateStores⟩,⟨18,.textOnly .lateStoresUnsure⟩,⟨19,.phase⟩],none⟩,
  ⟨some 235,.nilCheck (.tmp 214),0,"ref.go:111",#[⟨1,.data⟩,⟨0,.phase⟩,⟨1,.phase⟩,⟨2,.phase⟩,⟨3,.phase⟩,⟨4,.phase⟩,⟨5,.phase⟩,⟨6,.phase⟩,⟨7,.phase⟩,⟨8,.phase⟩,⟨9,.phase⟩,⟨10,.phase⟩,⟨11,.phase⟩,⟨12,.phase⟩,⟨13,.phase⟩,⟨14,.phase⟩,⟨15,.phase⟩,⟨16,.phase⟩,⟨17,.phase⟩,⟨18,.phase⟩,⟨19,.phase⟩,⟨20,.phase⟩,⟨21,.phase⟩,⟨22,.phase⟩],none⟩,
  ⟨some 236,.fieldAddr 89 (.tmp 235) 7,0,"ref.go:111",#[⟨23,.data⟩,⟨0,.phase⟩,⟨1,.phase⟩,⟨2,.phase⟩,⟨3,.phase⟩,⟨4,.phase⟩,⟨5,.phase⟩,⟨6,.phase⟩,⟨7,.phase⟩,⟨8,.phase⟩,⟨9,.phase⟩,⟨10,.phase⟩,⟨11,.phase⟩,⟨12,.phase⟩,⟨13,.phase⟩,⟨14,.phase⟩,⟨15,.phase⟩,⟨16,.phase⟩,⟨17,.phase⟩,⟨18,.phase⟩,⟨19,.phase⟩,⟨20,.phase⟩,⟨21,.phase⟩,⟨22,.phase⟩],none⟩,
  ⟨none,.store 87 (.tmp 236) (.tmp 232),0,"ref.go:111",#[⟨24,.data⟩,⟨19,.data⟩,⟨22,.chain⟩,⟨0,.phase⟩,⟨1,.phase⟩,⟨2,.phase⟩,⟨3,.phase⟩,⟨4,.phase⟩,⟨5,.phase⟩,⟨6,.phase⟩,⟨7,.phase⟩,⟨8,.phase⟩,⟨9,.phase⟩,⟨10,.phase⟩,⟨11,.phase⟩,⟨12,.phase⟩,⟨13,.phase⟩,⟨14,.phase⟩,⟨15,.phase⟩,⟨16,.phase⟩,⟨17,.phase⟩,⟨18,.phase⟩,⟨19,.phase⟩,⟨20,.phase⟩,⟨21,.phase⟩,⟨22,.phase⟩],none⟩] true).seq ((Code.region 45 #[
  ⟨some 238,.move (.tmp 0),47,"ref.go:112",#[],none⟩,
  ⟨some 239,.nilCheck (.tmp 238),0,"ref.go:112",#[⟨0,.data⟩],none⟩,
  ⟨some 240,.fieldAddr 89 (.tmp 239) 0,0,"ref.go:112",#[⟨1,.data⟩],none⟩,
  ⟨some 241,.load 25 (.tmp 240),25,"ref.go:112",#[⟨2,.data⟩],none⟩,
  ⟨some 242,.move (.tmp 21),3,"ref.go:112",#[],none⟩,
  ⟨some 243,.fieldAddr 76 (.tmp 15) 4,0,"ref.go:112",#[],none⟩,
  ⟨some 244,.load 9 (.tmp 243),9,"ref.go:112",#[⟨5,.data⟩],none⟩,
  ⟨some 245,.call ⟨.value (.func 19),#[.tmp 241,.tmp 242,.tmp 244],#[25,3,9]⟩,73,"ref.go:112",#[⟨3,.data⟩,⟨4,.data⟩,⟨6,.data⟩],none⟩,
  ⟨some 237,.move (.tmp 245),73,"ref.go:112",#[⟨7,.data⟩],none⟩,
  ⟨some 246,.extract (.tmp 237) 0,3,"ref.go:112",#[⟨8,.data⟩],none⟩,
  ⟨some 247,.extract (.tmp 237) 1,3,"ref.go:112",#[⟨8,.data⟩,⟨11,.gcOnly .lateStores⟩],none⟩,
  ⟨some 22,.assign (.tmp 246),3,"ref.go:112",#[⟨9,.data⟩,⟨7,.chain⟩,⟨0,.phase⟩,⟨1,.phase⟩,⟨2,.phase⟩,⟨3,.phase⟩,⟨4,.phase⟩,⟨5,.phase⟩,⟨6,.phase⟩,⟨7,.phase⟩,⟨8,.phase⟩,⟨9,.phase⟩,⟨10,.textOnly .lateStores⟩],none⟩,
  ⟨some 23,.assign (.tmp 247),3,"ref.go:112",#[⟨10,.data⟩,⟨11,.chain⟩,⟨0,.phase⟩,⟨1,.phase⟩,⟨2,.phase⟩,⟨3,.phase⟩,⟨4,.phase⟩,⟨5,.phase⟩,⟨6,.phase⟩,⟨7,.phase⟩,⟨8,.phase⟩,⟨9,.phase⟩,⟨10,.phase⟩,⟨11,.phase⟩],none⟩] true).seq (((Code.region 46 #[
  ⟨some 248,.move (.tmp 23),3,"ref.go:113",#[],none⟩,
  ⟨some 249,.binOp .lss 3 (.tmp 248) (.const (.int .i64 0)) 3,4,"ref.go:113",#[⟨0,.data⟩],none⟩] false).seq (Code.cond (Operand.tmp 249) ((Code.region 47 #[
  ⟨some 250,.move (.tmp 0),47,"ref.go:114",#[],none⟩,
  ⟨some 251,.nilCheck (.tmp 250),0,"ref.go:114",#[⟨0,.data⟩,⟨0,.phase⟩],none⟩,
  ⟨some 252,.fieldAddr 89 (.tmp 251) 5,0,"ref.go:114",#[⟨1,.data⟩,⟨0,.phase⟩],none⟩,
  ⟨none,.store 33 (.tmp 252) (.const (.int .i64 10)),0,"ref.go:114",#[⟨2,.data⟩,⟨0,.phase⟩],none⟩] false).seq (Code.exit 2)) Code.skip)).seq (Code.region 48 #[
  ⟨some 253,.load 28 (.tmp 12),28,"ref.go:117",#[],none⟩,
  ⟨some 254,.move (.tmp 0),47,"ref.go:117",#[],none⟩,
  ⟨some 255,.move (.tmp 22),3,"ref.go:117",#[],none⟩,
  ⟨some 256,.move (.tmp 23),3,"ref.go:117",#[],none⟩,
  ⟨some 257,.load 27 (.tmp 20),27,"ref.go:117",#[],none⟩,
  ⟨some 258,.move (.tmp 19),28,"ref.go:117",#[],none⟩,
  ⟨some 259,.call ⟨.value (.func 35),#[.tmp 254,.tmp 255,.tmp 256,.tmp 257,.tmp 258],#[47,3,3,27,28]⟩,27,"ref.go:117",#[⟨1,.data⟩,⟨2,.data⟩,⟨3,.data⟩,⟨4,.data⟩,⟨5,.data⟩],none⟩,
  ⟨some 260,.buildSlice 28 1 #[(0,.tmp 259)],28,"ref.go:117",#[⟨6,.data⟩],none⟩,
  ⟨some 261,.call ⟨.builtin .append,#[.tmp 253,.tmp 260],#[28,28]⟩,28,"ref.go:117",#[⟨0,.data⟩,⟨7,.data⟩,⟨6,.chain⟩],none⟩,
  ⟨none,.store 28 (.tmp 12) (.tmp 261),0,"ref.go:117",#[⟨8,.data⟩,⟨8,.chain⟩,⟨0,.phase⟩,⟨1,.phase⟩,⟨2,.phase⟩,⟨3,.phase⟩,⟨4,.phase⟩,⟨5,.phase⟩,⟨6,.phase⟩,⟨7,.phase⟩,⟨8,.phase⟩],none⟩] true)))))
def xoP:Code:=(Code.region 45 #[
  ⟨some 238,.move (.tmp 0),47,"ref.go:112",#[],none⟩,
  ⟨some 239,.nilCheck (.tmp 238),0,"ref.go:112",#[⟨0,.data⟩],none⟩,
  ⟨some 240,.fieldAddr 89 (.tmp 239) 0,0,"ref.go:112",#[⟨1,.data⟩],none⟩,
  ⟨some 241,.load 25 (.tmp 240),25,"ref.go:112",#[⟨2,.data⟩],none⟩,
  ⟨some 242,.move (.tmp 21),3,"ref.go:112",#[],none⟩,
  ⟨some 243,.fieldAddr 76 (.tmp 15) 4,0,"ref.go:112",#[],none⟩,
  ⟨some 244,.load 9 (.tmp 243),9,"ref.go:112",#[⟨5,.data⟩],none⟩,
  ⟨some 245,.call ⟨.value (.func 19),#[.tmp 241,.tmp 242,.tmp 244],#[25,3,9]⟩,73,"ref.go:112",#[⟨3,.data⟩,⟨4,.data⟩,⟨6,.data⟩],none⟩,
  ⟨some 237,.move (.tmp 245),73,"ref.go:112",#[⟨7,.data⟩],none⟩,
  ⟨some 246,.extract (.tmp 237) 0,3,"ref.go:112",#[⟨8,.data⟩],none⟩,
  ⟨some 247,.extract (.tmp 237) 1,3,"ref.go:112",#[⟨8,.data⟩,⟨11,.gcOnly .lateStores⟩],none⟩,
  ⟨some 22,.assign (.tmp 246),3,"ref.go:112",#[⟨9,.data⟩,⟨7,.chain⟩,⟨0,.phase⟩,⟨1,.phase⟩,⟨2,.phase⟩,⟨3,.phase⟩,⟨4,.phase⟩,⟨5,.phase⟩,⟨6,.phase⟩,⟨7,.phase⟩,⟨8,.phase⟩,⟨9,.phase⟩,⟨10,.textOnly .lateStores⟩],none⟩,
  ⟨some 23,.assign (.tmp 247),3,"ref.go:112",#[⟨10,.data⟩,⟨11,.chain⟩,⟨0,.phase⟩,⟨1,.phase⟩,⟨2,.phase⟩,⟨3,.phase⟩,⟨4,.phase⟩,⟨5,.phase⟩,⟨6,.phase⟩,⟨7,.phase⟩,⟨8,.phase⟩,⟨9,.phase⟩,⟨10,.phase⟩,⟨11,.phase⟩],none⟩] true)
def sd46:Code:=(((Code.region 46 #[
  ⟨some 248,.move (.tmp 23),3,"ref.go:113",#[],none⟩,
  ⟨some 249,.binOp .lss 3 (.tmp 248) (.const (.int .i64 0)) 3,4,"ref.go:113",#[⟨0,.data⟩],none⟩] false).seq (Code.cond (Operand.tmp 249) ((Code.region 47 #[
  ⟨some 250,.move (.tmp 0),47,"ref.go:114",#[],none⟩,
  ⟨some 251,.nilCheck (.tmp 250),0,"ref.go:114",#[⟨0,.data⟩,⟨0,.phase⟩],none⟩,
  ⟨some 252,.fieldAddr 89 (.tmp 251) 5,0,"ref.go:114",#[⟨1,.data⟩,⟨0,.phase⟩],none⟩,
  ⟨none,.store 33 (.tmp 252) (.const (.int .i64 10)),0,"ref.go:114",#[⟨2,.data⟩,⟨0,.phase⟩],none⟩] false).seq (Code.exit 2)) Code.skip)).seq (Code.region 48 #[
  ⟨some 253,.load 28 (.tmp 12),28,"ref.go:117",#[],none⟩,
  ⟨some 254,.move (.tmp 0),47,"ref.go:117",#[],none⟩,
  ⟨some 255,.move (.tmp 22),3,"ref.go:117",#[],none⟩,
  ⟨some 256,.move (.tmp 23),3,"ref.go:117",#[],none⟩,
  ⟨some 257,.load 27 (.tmp 20),27,"ref.go:117",#[],none⟩,
  ⟨some 258,.move (.tmp 19),28,"ref.go:117",#[],none⟩,
  ⟨some 259,.call ⟨.value (.func 35),#[.tmp 254,.tmp 255,.tmp 256,.tmp 257,.tmp 258],#[47,3,3,27,28]⟩,27,"ref.go:117",#[⟨1,.data⟩,⟨2,.data⟩,⟨3,.data⟩,⟨4,.data⟩,⟨5,.data⟩],none⟩,
  ⟨some 260,.buildSlice 28 1 #[(0,.tmp 259)],28,"ref.go:117",#[⟨6,.data⟩],none⟩,
  ⟨some 261,.call ⟨.builtin .append,#[.tmp 253,.tmp 260],#[28,28]⟩,28,"ref.go:117",#[⟨0,.data⟩,⟨7,.data⟩,⟨6,.chain⟩],none⟩,
  ⟨none,.store 28 (.tmp 12) (.tmp 261),0,"ref.go:117",#[⟨8,.data⟩,⟨8,.chain⟩,⟨0,.phase⟩,⟨1,.phase⟩,⟨2,.phase⟩,⟨3,.phase⟩,⟨4,.phase⟩,⟨5,.phase⟩,⟨6,.phase⟩,⟨7,.phase⟩,⟨8,.phase⟩],none⟩] true))
set_option maxRecDepth 100000
theorem xod {p:Rp}{d:Nat}{T T1:Nat->Nat}{w wr W:World}{mb K:Nat}{R:Mc RSt × QV × Int}{av kv:Value}{gk G':Nat}{m:Mc RSt}{f:Fr}{c:Int}{n1 n2 n3 k:Nat}{x:QI}{hv sv ov:Value}{sa:Option Addr}{sc:Nat}(H:SwC p d T w mb K R av kv gk G' c n1 n2 n3 T1 m f wr W k x hv sv ov sa sc)(hop:x.op=14)
  {V:World} {T4:Nat->Nat} {nn na xb:Nat} {xv:QV} {asv hv4 sv4 ov4:Value} {kl:Int} (hna:x.a=(na:Int)) (hlen:f.stack.length=nn+1+na) (hxv:f.stack[nn]?=some xv) (hkl:xar m.heap xv=kl)
  (hE:Ext T1 T4 wr) (hKp:Kp (All K) T1 wr V) (hB:SdB p d mb K w.heap.size wr.heap.size xb T4 V { m with st:=m.st++[(⟨c,f.meth.name,(k:Int)⟩,kl)] } 0 { f with stack:=f.stack.take nn } x.name xv (f.stack.drop (nn+1)) asv av kv (.slice sa nn sc) hv4 sv4 ov4)
  {u0 u1 u2 u3 u4 u5 u6 ua ub uc ud ue uf ug uh ui uj uk ul um un uo up uq ur us ut uu uv uw ux uy uz ua0 ua1 ua2 ua3 ua4 ua5 ua6 ua7 ua8 ua9 uaa uab uac
  uad uae uaf uag uah uai uaj uak ual uam uan uao uap uaq uar uas uat uau uav uaw uax uay uaz ub0 ub1 ub2 ub3 ub4 ub5 ub6 ub7 ub8 ub9 uba ubb ubc ubd ube ubf ubg ubh ubi ubj ubk
  ubl ubm ubn ubo ubp ubq ubr ubs ubt ubu ubv ubw ubx uby ubz uc0 uc1 uc2 uc3 uc4 uc5 uc6 uc7 uc8 uc9 uca ucb ucc ucd uce ucf ucg uch uci ucj uck
  ucl ucm ucn uco ucp ucq ucr ucs uct ucu ucv ucw ucx ucy ucz ud0 ud1 ud2 ud3 ud4 ud5 ud6 ud7 ud8 ud9 uda udb udc udd ude udf udg udh udi udj udk
  udl udm udn udo udp udq udr uds udt udu udv udw udx udy udz ue0 ue1 ue2 ue3 ue4 ue5 ue6 ue7 ue8 ue9 uea ueb uec ued uee uef ueg ueh uei uej uek
  uel uem uen ueo uep ueq uer ues uet ueu uev uew uex uey uez uf0 uf1 uf2 uf3 uf4 uf5 uf6 uf7 uf8 uf9 ufa ufb ufc ufd ufe uff ufg ufh ufi ufj ufk
  ufl ufm ufn ufo ufp ufq ufr ufs uft ufu ufv ufw ufx ufy ufz ug0 ug1 ug2 ug3 ug4 ug5 ug6 ug7 ug8 ug9 uga ugb ugc ugd uge ugf ugg ugh ugi ugj ugk
  ugl ugm ugn ugo ugp ugq ugr ugs ugt ugu ugv ugw ugx ugy ugz uh0 uh1 uh2 uh3:Value}
  {KT K2 K3:Act->World->Prop}
  (hN:∀ (u5 u6 u7 u8 u9 ua ub uc uu uv uw ux uy uz ua0 ua1 ua2 ua3 ua4 ua5 ua6 ua7 ua8 ua9 uaa uab uac uad uae uaf uag uah uai uaj uak ual uam uan uao uap uaq uar uas uat uau
  uav uaw uax uay uaz ub0 ub1 ub2 ub3 ub4 ub5 ub6 ub7 ub8 ub9 uba ubb ubc ubd ube ubf ubg ubh ubi ubj ubk ubl ubm ubn ubo ubp ubq ubr ubs ubt ubu ubv ubw ubx uby
  ubz uc0 uc1 uc2 uc3 uc4 uc5 uc6 uc7 uc8 uc9 uca ucb ucc ucd uce ucf ucg uch uci ucj uck ucl ucm ucn uco ucp ucq ucr ucs uct ucu ucv ucw ucx ucy
  ucz ud0 ud1 ud2 ud3 ud4 ud5 ud6 ud7 ud8 ud9 uda udb udc udd ude udf udg udh udi udj udk udl udm udn udo udp udq udr uds udt udu udv udw udx udy
  udz ue0 ue1 ue2 ue3 ue4 ue5 ue6 ue7 ue8 ue9 uea ueb uec ued uee uef ueg ueh uei uej uek uel uem uen ueo uep ueq uer ues uet ueu uev uew uex uey
  uez uf0 uf1 uf2 uf3 uf4 uf5 uf6 uf7 uf8 uf9 ufa ufb ufc ufd ufe uff ufg ufh ufi ufj ufk ufl ufm ufn ufo ufp ufq ufr ufs uft ufu ufv ufw ufx ufy
  ufz ug0 ug1 ug2 ug3 ug4 ug5 ug6 ug7 ug8 ug9 uga ugb ugc ugd uge ugf ugg ugh ugi ugj:Value) (tg:Int) (w':World),xf0 p d T w mb K R av kv G' c n1 n2 n3 T1 m f wr k x tg w'->KT (Act.mk #[.pointer (some ⟨mb,0,none⟩),.int .i64 c,u0,u1,av,u2,u3,.pointer (some ⟨w.heap.size,0,none⟩),.pointer (some ⟨w.heap.size+1,0,none⟩),u4,.pointer (some
  ⟨w.heap.size+2,0,none⟩),.slice (some ⟨w.heap.size+3,0,none⟩) n2 n2,.pointer (some ⟨w.heap.size+4,0,none⟩),.func (.func 68) #[] #[.pointer (some ⟨w.heap.size+4,0,
  none⟩)],.int .i64 (k:Int),.pointer (some ⟨wr.heap.size,0,none⟩),.int .i64 tg,u5,u6,u7,u8,u9,ua,ub,uc,ud,ue,uf,ug,uh,ui,uj,uk,ul,um,un,
  uo,up,uq,ur,us,ut,.int .i64 14,uu,uv,uw,ux,uy,uz,ua0,ua1,ua2,ua3,ua4,ua5,ua6,ua7,ua8,ua9,uaa,uab,uac,uad,uae,uaf,uag,uah,uai,uaj,uak,
  ual,uam,uan,uao,uap,uaq,uar,uas,uat,uau,uav,uaw,uax,uay,uaz,ub0,ub1,ub2,ub3,ub4,ub5,ub6,ub7,ub8,ub9,uba,ubb,ubc,ubd,ube,ubf,ubg,ubh,ubi,ubj,
  ubk,ubl,ubm,ubn,ubo,ubp,ubq,ubr,ubs,ubt,ubu,ubv,ubw,ubx,uby,ubz,uc0,uc1,uc2,uc3,uc4,uc5,uc6,uc7,uc8,uc9,uca,ucb,ucc,ucd,
  uce,ucf,ucg,uch,uci,ucj,uck,ucl,ucm,ucn,uco,ucp,ucq,ucr,ucs,uct,ucu,ucv,ucw,ucx,ucy,ucz,ud0,ud1,ud2,ud3,ud4,ud5,ud6,ud7,
  ud8,ud9,uda,udb,udc,udd,ude,udf,udg,udh,udi,udj,udk,udl,udm,udn,udo,udp,udq,udr,uds,udt,udu,udv,udw,udx,udy,udz,ue0,ue1,
  ue2,ue3,ue4,ue5,ue6,ue7,ue8,ue9,uea,ueb,uec,ued,uee,uef,ueg,ueh,uei,uej,uek,uel,uem,uen,ueo,uep,ueq,uer,ues,uet,ueu,uev,
  uew,uex,uey,uez,uf0,uf1,uf2,uf3,uf4,uf5,uf6,uf7,uf8,uf9,ufa,ufb,ufc,ufd,ufe,uff,ufg,ufh,ufi,ufj,ufk,ufl,ufm,ufn,ufo,ufp,
  ufq,ufr,ufs,uft,ufu,ufv,ufw,ufx,ufy,ufz,ug0,ug1,ug2,ug3,ug4,ug5,ug6,ug7,ug8,ug9,uga,ugb,ugc,ugd,uge,ugf,ugg,ugh,ugi,ugj,
  ugk,ugl,ugm,ugn,ugo,ugp,ugq,ugr,ugs,ugt,ugu,ugv,ugw,ugx,ugy,ugz,uh0,uh1,uh2,uh3] []) w')
  {K9:Act->World->Prop} (hK9:∀ a w',Code.wp Tryz.prog sd46 (Exit.inBlock 2 (Exit.then KT (Exit.inBlock 1 (Exit.then K2 (Exit.inBlock 0 (Exit.then K3 (bodyPost Tryz.prog Tryz.f52 fun e w'=>xaS p T w mb (20-(d:Int)) K R e w'))))))) a w'->K9 a w') :
  Code.wp Tryz.prog xoP (Exit.then K9 (Exit.inBlock 2 (Exit.then KT (Exit.inBlock 1 (Exit.then K2 (Exit.inBlock 0 (Exit.then K3 (bodyPost Tryz.prog Tryz.f52 fun e w'=>xaS p T w mb (20-(d:Int)) K R e w')))))))) (Act.mk #[.pointer (some ⟨mb,0,none⟩),.int .i64 c,u0,u1,av,u2,u3,.pointer (some ⟨w.heap.size,0,none⟩),.pointer (some ⟨w.heap.size+1,0,none⟩),u4,.pointer (some
  ⟨w.heap.size+2,0,none⟩),.slice (some ⟨w.heap.size+3,0,none⟩) n2 n2,.pointer (some ⟨w.heap.size+4,0,none⟩),.func (.func 68) #[] #[.pointer (some ⟨w.heap.size+4,0,
  none⟩)],.int .i64 (k:Int),.pointer (some ⟨wr.heap.size,0,none⟩),.int .i64 ((k:Int)+1),u5,u6,asv,.pointer (some ⟨xb,0,none⟩),.int .i64 kl,ua,ub,uc,ud,
  ue,uf,ug,uh,ui,uj,uk,ul,um,un,uo,up,uq,ur,us,ut,.int .i64 14,uu,uv,uw,ux,uy,uz,ua0,ua1,ua2,ua3,ua4,ua5,ua6,ua7,ua8,ua9,uaa,
  uab,uac,uad,uae,uaf,uag,uah,uai,uaj,uak,ual,uam,uan,uao,uap,uaq,uar,uas,uat,uau,uav,uaw,uax,uay,uaz,ub0,ub1,ub2,ub3,ub4,ub5,ub6,ub7,ub8,ub9,uba,
  ubb,ubc,ubd,ube,ubf,ubg,ubh,ubi,ubj,ubk,ubl,ubm,ubn,ubo,ubp,ubq,ubr,ubs,ubt,ubu,ubv,ubw,ubx,uby,ubz,uc0,uc1,uc2,uc3,uc4,uc5,
  uc6,uc7,uc8,uc9,uca,ucb,ucc,ucd,uce,ucf,ucg,uch,uci,ucj,uck,ucl,ucm,ucn,uco,ucp,ucq,ucr,ucs,uct,ucu,ucv,ucw,ucx,ucy,ucz,
  ud0,ud1,ud2,ud3,ud4,ud5,ud6,ud7,ud8,ud9,uda,udb,udc,udd,ude,udf,udg,udh,udi,udj,udk,udl,udm,udn,udo,udp,udq,udr,uds,udt,
  udu,udv,udw,udx,udy,udz,ue0,ue1,ue2,ue3,ue4,ue5,ue6,ue7,ue8,ue9,uea,ueb,uec,ued,uee,uef,ueg,ueh,uei,uej,uek,uel,uem,uen,
  ueo,uep,ueq,uer,ues,uet,ueu,uev,uew,uex,uey,uez,uf0,uf1,uf2,uf3,uf4,uf5,uf6,uf7,uf8,uf9,ufa,ufb,ufc,ufd,ufe,uff,ufg,ufh,
  ufi,ufj,ufk,ufl,ufm,ufn,ufo,ufp,ufq,ufr,ufs,uft,ufu,ufv,ufw,ufx,ufy,ufz,ug0,ug1,ug2,ug3,ug4,ug5,ug6,ug7,ug8,ug9,uga,ugb,
  ugc,ugd,uge,ugf,ugg,ugh,ugi,ugj,ugk,ugl,ugm,ugn,ugo,ugp,ugq,ugr,ugs,ugt,ugu,ugv,ugw,ugx,ugy,ugz,uh0,uh1,uh2,uh3] []) V:=by
 obtain⟨hX,hEn,HR0,HG0,HX0,HMa0,HF0,hscap,HL0,hbel,hxb,⟨aa,ca,rfl,hca⟩,ht40,HI0⟩:=H;have HR:=hid HR0;have HG:=hid HG0;have HX:=hid HX0;have HL:=hid HL0;have HI:=hid HI0;have HOP:=hid hop;have HEn:=hid hEn;have HE:=hid hE;have HKp:=hid hKp;have HB:=hid hB;obtain⟨hsc1,hsc2⟩:=hscap;have HN:=hid (And.intro hna (And.intro hlen (And.intro hxv hkl)));have hfw:f.stack.length<=12:=HX0.few;have hp5:=hB.fr.pos;have hnl:nn+1+na<=12:=by omega
 have hcl:f.cls=c:=HL0.1;obtain⟨hI0,hW0,hFo0,hPl0⟩:=HI0;have hSv:∀ r,xa1 p.E d { m with st:=m.st++[(⟨c,f.meth.name,(k:Int)⟩,kl)] } (xaw p.X.cz kl x.name).1 (xaw p.X.cz kl x.name).2 xv (f.stack.drop (nn+1))=r->Hid (xan (xa1 p.E d) p.E d m { f with pc:=f.pc+1 } f.pc x=if r.2.2≠0 then (r.1,{ f with pc:=f.pc+1 },r.2.2) else (r.1,{ f with pc:=f.pc+1,stack:=f.stack.take nn++[r.2.1] },0)):=fun r hr=>xmc HX0 hop hPl0.fast hcl hna hlen hxv hkl hr
 have HSv:=hid hSv;have hm4:MIn p.E { m with st:=m.st++[(⟨c,f.meth.name,(k:Int)⟩,kl)] }:=⟨hI0.heap,hI0.sz_,hI0.tz⟩
 have hfew4:xmP { m with st:=m.st++[(⟨c,f.meth.name,(k:Int)⟩,kl)] }:=by
  unfold xmP;unfold Few at hW0;simp only[List.length_append,List.length_cons,List.length_nil];omega
 have hws:xas m.heap.length xv=0:=hFo0.stack _ (List.mem_of_getElem? hxv);have hwa:VsOk m.heap.length (f.stack.drop (nn+1)):=fun v hv=>hFo0.stack v (List.mem_of_mem_drop hv)
 have HM4:=hid (And.intro hm4 (And.intro hfew4 (And.intro hws hwa)));clear HR0 HG0 HX0 HMa0 HF0 HL0 hop hbel hEn hE hKp hI0 hW0 hFo0 hPl0 hna hlen hxv hkl hcl hSv hm4 hfew4 hws hwa hxb;unfold xoP;unfold sd46 at hK9;obtain⟨ac,cc,hcv,-⟩:=id hB.mac.cls;obtain⟨ah,ch,rfl,-⟩:=id hB.mac.heap;have hSl:∀ w',Below V.heap.size V w'->w'.cell? ⟨mb,0,none⟩=some (.slice ac p.X.cz.length cc)/\w'.cell? ⟨mb,1,none⟩=some (.slice ah m.heap.length ch)/\w'.cell? ⟨mb,2,none⟩=some (.int .i64 p.X.ez)/\w'.cell? ⟨wr.heap.size,4,none⟩=some (.string x.name):=fun w' hb=>⟨by rw[← hcv];exact qzA hb hB.mac.c0,qzA hb hB.mac.c1,qzA hb hB.mac.c2,qzA hb hB.nm⟩
 have hS0:=hSl _ (Below.refl _ V).drew;refine xaY (S:=fun w'=>w'.cell? ⟨mb,0,none⟩=some (.slice ac p.X.cz.length cc)/\w'.cell? ⟨mb,1,none⟩=some (.slice ah m.heap.length ch)/\w'.cell? ⟨mb,2,none⟩=some (.int .i64 p.X.ez)/\w'.cell? ⟨wr.heap.size,4,none⟩=some (.string x.name)) [] (by kernel_rfl) ?_
 refine tk 0 (⟨some 238,.move (.tmp 0),47,_,_,none⟩) (.pointer (some ⟨mb,0,none⟩)) rfl (hS0) (fun _ _ _ h=>h) rfl (by kernel_rfl) ?_ ?_
 ·intro w hSw;obtain⟨q0,q1,q2,q3⟩:=hSw;go_simp
 try simp only[Act.put,qzF,qzG,qzH]
 refine tk 1 (⟨some 239,.nilCheck (.tmp 238),0,_,_,none⟩) (.pointer (some ⟨mb,0,none⟩)) rfl (hS0) (fun _ _ _ h=>h) rfl (by kernel_rfl) ?_ ?_
 ·intro w hSw;obtain⟨q0,q1,q2,q3⟩:=hSw;go_simp
 try simp only[Act.put,qzF,qzG,qzH]
 refine tk 2 (⟨some 240,.fieldAddr 89 (.tmp 239) 0,0,_,_,none⟩) (.pointer (some ⟨mb,0,none⟩)) rfl (hS0) (fun _ _ _ h=>h) rfl (by kernel_rfl) ?_ ?_
 ·intro w hSw;obtain⟨q0,q1,q2,q3⟩:=hSw;go_simp
 try simp only[Act.put,qzF,qzG,qzH]
 refine tk 3 (⟨some 241,.load 25 (.tmp 240),25,_,_,none⟩) (WV (.slice ac p.X.cz.length cc) (.slice ah m.heap.length ch) p.X.ez) rfl (hS0) (fun _ _ _ h=>h) rfl (by kernel_rfl) ?_ ?_
 ·intro w hSw;obtain⟨q0,q1,q2,q3⟩:=hSw;go_simp
 try simp only[Act.put,qzF,qzG,qzH]
 refine tk 4 (⟨some 242,.move (.tmp 21),3,_,_,none⟩) (.int .i64 kl) rfl (hS0) (fun _ _ _ h=>h) rfl (by kernel_rfl) ?_ ?_
 ·intro w hSw;obtain⟨q0,q1,q2,q3⟩:=hSw;go_simp
 try simp only[Act.put,qzF,qzG,qzH]
 refine tk 5 (⟨some 243,.fieldAddr 76 (.tmp 15) 4,0,_,_,none⟩) (.pointer (some ⟨wr.heap.size,4,none⟩)) rfl (hS0) (fun _ _ _ h=>h) rfl (by kernel_rfl) ?_ ?_
 ·intro w hSw;obtain⟨q0,q1,q2,q3⟩:=hSw;go_simp
 try simp only[Act.put,qzF,qzG,qzH]
 refine tk 6 (⟨some 244,.load 9 (.tmp 243),9,_,_,none⟩) (.string x.name) rfl (hS0) (fun _ _ _ h=>h) rfl (by kernel_rfl) ?_ ?_
 ·intro w hSw;obtain⟨q0,q1,q2,q3⟩:=hSw;go_simp
 try simp only[Act.put,qzF,qzG,qzH]
 refine xag (rs:=[7]) (by kernel_rfl) (by simp) ?_
 intro i hi;simp only[List.mem_cons,List.not_mem_nil,or_false] at hi;subst hi;refine xa6 (o:=⟨some 245,.call ⟨.value (.func 19),#[.tmp 241,.tmp 242,.tmp 244],#[25,3,9]⟩,73,_,_,none⟩) rfl (fun K' hK=>?_)
 refine xbv rfl 19 (.func 19) #[.tmp 241,.tmp 242,.tmp 244] _ rfl #[] rfl #[WV (.slice ac p.X.cz.length cc) (.slice ah m.heap.length ch) p.X.ez,.int .i64 kl,.string x.name] (by simp[Act.eval,Act.put]) (cf22 _ _) ?_
 refine (show Calls Tryz.prog 19 #[WV (.slice ac p.X.cz.length cc) (.slice ah m.heap.length ch) p.X.ez,.int .i64 kl,.string x.name] V.drew _ from (xhs ⟨p.X.cz,m.heap,p.X.ez⟩ kl x.name _ _ V.drew (by rw[← hcv];exact (hB.mac.cls.later xaz (Below.refl _ V).drew)) (hB.mac.heap.later xaD (Below.refl _ V).drew)).mono ?_)
 rintro e w1 ⟨rfl,hbF⟩;refine⟨_,rfl,?_⟩;refine hK _ _ (fun _=>hSl _ (xah (Below.refl _ V).drew hbF)) ?_
 clear hK K'
 try simp only[Act.put,qzF,qzG,qzH]
 refine tk 8 (⟨some 237,.move (.tmp 245),73,_,_,none⟩) (.tuple #[.int .i64 (xaw p.X.cz kl x.name).1,.int .i64 (xaw p.X.cz kl x.name).2]) rfl (hSl _ (xah (Below.refl _ V).drew hbF)) (fun _ _ _ h=>h) rfl (by kernel_rfl) ?_ ?_
 ·intro w hSw;obtain⟨q0,q1,q2,q3⟩:=hSw;go_simp
 try simp only[Act.put,qzF,qzG,qzH]
 refine tk 9 (⟨some 246,.extract (.tmp 237) 0,3,_,_,none⟩) (.int .i64 (xaw p.X.cz kl x.name).1) rfl (hSl _ (xah (Below.refl _ V).drew hbF)) (fun _ _ _ h=>h) rfl (by kernel_rfl) ?_ ?_
 ·intro w hSw;obtain⟨q0,q1,q2,q3⟩:=hSw;go_simp
 try simp only[Act.put,qzF,qzG,qzH]
 refine tk 10 (⟨some 247,.extract (.tmp 237) 1,3,_,_,none⟩) (.int .i64 (xaw p.X.cz kl x.name).2) rfl (hSl _ (xah (Below.refl _ V).drew hbF)) (fun _ _ _ h=>h) rfl (by kernel_rfl) ?_ ?_
 ·intro w hSw;obtain⟨q0,q1,q2,q3⟩:=hSw;go_simp
 try simp only[Act.put,qzF,qzG,qzH]
 refine tk 11 (⟨some 22,.assign (.tmp 246),3,_,_,none⟩) (.int .i64 (xaw p.X.cz kl x.name).1) rfl (hSl _ (xah (Below.refl _ V).drew hbF)) (fun _ _ _ h=>h) rfl (by kernel_rfl) ?_ ?_
 ·intro w hSw;obtain⟨q0,q1,q2,q3⟩:=hSw;go_simp
 try simp only[Act.put,qzF,qzG,qzH]
 refine tk 12 (⟨some 23,.assign (.tmp 247),3,_,_,none⟩) (.int .i64 (xaw p.X.cz kl x.name).2) rfl (hSl _ (xah (Below.refl _ V).drew hbF)) (fun _ _ _ h=>h) rfl (by kernel_rfl) ?_ ?_
 ·intro w hSw;obtain⟨q0,q1,q2,q3⟩:=hSw;go_simp
 try simp only[Act.put,qzF,qzG,qzH]
 refine xa0 (by kernel_rfl) ?_ _
 try simp only[Act.put,qzF,qzG,qzH]
 have hbV:Below V.heap.size V w1:=xah (Below.refl _ V).drew hbF;have hB1:=hB.later hbV;have HKp1:Hid (Kp (All K) T1 wr w1):=HKp.out.on hbV;clear hB HB HKp hSl hS0 hbF hbV
 by_cases hj:0<=(xaw p.X.cz kl x.name).2
 ·obtain⟨mt,hmt⟩:=xgO hj;have hj':¬ ((xaw p.X.cz kl x.name).2<0):=by omega
  have hjd:decide ((xaw p.X.cz kl x.name).2<0)=false:=by simpa using hj'
  generalize hR5:xa1 p.E d { m with st:=m.st++[(⟨c,f.meth.name,(k:Int)⟩,kl)] } (xaw p.X.cz kl x.name).1 (xaw p.X.cz kl x.name).2 xv (f.stack.drop (nn+1))=r
  have HV:=HSv.out r hR5;have HMt:=hid hmt;have HR5:=hid hR5;generalize hfc:(xaw p.X.cz kl x.name).1=fc at *;generalize hfj:(xaw p.X.cz kl x.name).2=fj at *;clear hmt hR5 hfc hfj HSv
  go_upto_region 48 with (fail)
  have hSl:∀ w',Below w1.heap.size w1 w'->w'.cell? ⟨w.heap.size+4,0,none⟩=some (.slice sa nn sc)/\w'.cell? ⟨xb,0,none⟩=some (.int .i64 xv.k)/\w'.cell? ⟨xb,1,none⟩=some (.int .i64 xv.n):=fun w' hb=>⟨qzA hb hB1.fr.st,qzA hb hB1.x0,qzA hb hB1.x1⟩
  have hS0:=hSl _ (Below.refl _ w1).drew;refine xaY (S:=fun w'=>w'.cell? ⟨w.heap.size+4,0,none⟩=some (.slice sa nn sc)/\w'.cell? ⟨xb,0,none⟩=some (.int .i64 xv.k)/\w'.cell? ⟨xb,1,none⟩=some (.int .i64 xv.n)) [9] (by kernel_rfl) ?_
  refine tk 0 (⟨some 253,.load 28 (.tmp 12),28,_,_,none⟩) (.slice sa nn sc) rfl (hS0) (fun _ _ _ h=>h) rfl (by kernel_rfl) ?_ ?_
  ·intro w hSw;obtain⟨q0,q1,q2⟩:=hSw;go_simp
  try simp only[Act.put,qzF,qzG,qzH]
  refine tk 1 (⟨some 254,.move (.tmp 0),47,_,_,none⟩) (.pointer (some ⟨mb,0,none⟩)) rfl (hS0) (fun _ _ _ h=>h) rfl (by kernel_rfl) ?_ ?_
  ·intro w hSw;obtain⟨q0,q1,q2⟩:=hSw;go_simp
  try simp only[Act.put,qzF,qzG,qzH]
  refine tk 2 (⟨some 255,.move (.tmp 22),3,_,_,none⟩) (.int .i64 fc) rfl (hS0) (fun _ _ _ h=>h) rfl (by kernel_rfl) ?_ ?_
  ·intro w hSw;obtain⟨q0,q1,q2⟩:=hSw;go_simp
  try simp only[Act.put,qzF,qzG,qzH]
  refine tk 3 (⟨some 256,.move (.tmp 23),3,_,_,none⟩) (.int .i64 fj) rfl (hS0) (fun _ _ _ h=>h) rfl (by kernel_rfl) ?_ ?_
  ·intro w hSw;obtain⟨q0,q1,q2⟩:=hSw;go_simp
  try simp only[Act.put,qzF,qzG,qzH]
  refine tk 4 (⟨some 257,.load 27 (.tmp 20),27,_,_,none⟩) (VV xv) rfl (hS0) (fun _ _ _ h=>h) rfl (by kernel_rfl) ?_ ?_
  ·intro w hSw;obtain⟨q0,q1,q2⟩:=hSw;go_simp
  try simp only[Act.put,qzF,qzG,qzH]
  refine tk 5 (⟨some 258,.move (.tmp 19),28,_,_,none⟩) (asv) rfl (hS0) (fun _ _ _ h=>h) rfl (by kernel_rfl) ?_ ?_
  ·intro w hSw;obtain⟨q0,q1,q2⟩:=hSw;go_simp
  try simp only[Act.put,qzF,qzG,qzH]
  refine xag (rs:=[6]) (by kernel_rfl) (by simp) ?_
  intro i hi;simp only[List.mem_cons,List.not_mem_nil,or_false] at hi;subst hi;refine xa6 (o:=⟨some 259,.call ⟨.value (.func 35),#[.tmp 254,.tmp 255,.tmp 256,.tmp 257,.tmp 258],#[47,3,3,27,28]⟩,27,_,_,none⟩) rfl (fun K' hK=>?_)
  have hB1d:=hB1.later (Below.refl _ w1).drew;refine xbv rfl 35 (.func 35) #[.tmp 254,.tmp 255,.tmp 256,.tmp 257,.tmp 258] _ rfl #[] rfl #[.pointer (some ⟨mb,0,none⟩),.int .i64 fc,.int .i64 fj,VV xv,asv] (by simp[Act.eval,Act.put]) (cf24 _ _) ?_
  refine (show Calls Tryz.prog 35 #[.pointer (some ⟨mb,0,none⟩),.int .i64 fc,.int .i64 fj,VV xv,asv] w1.drew _ from (HEn.out (K+3) T4 w1.drew mb _ _ _ _ fc fj xv _ asv mt (by omega) hB1d.mac HM4.out.1 HM4.out.2.1 HM4.out.2.2.1 HM4.out.2.2.2 hB1d.args HMt.out).mono ?_)
  rw[HR5.out];rintro e w5 ⟨rfl,⟨T5,hv5,sv5,ov5,hE5,hM5⟩,hK5⟩;refine⟨_,rfl,?_⟩;replace hK5:Kp (All (K+3)) T4 w1 w5:=(Kp.of_below (Below.refl _ w1).drew).trans (.refl _ _) hK5;replace hE5:Ext T4 T5 w1:=hE5;have hB5:=hB1.keep (T':=T5) hE5 hK5 (by unfold All;omega) (by unfold All;omega) (by unfold All;omega) (by unfold All;omega) (by unfold All;omega) hM5
  have hF5:=hB5.fr;have hSl5:∀ w',Below w5.heap.size w5 w'->w'.cell? ⟨w.heap.size+4,0,none⟩=some (.slice sa nn sc)/\w'.cell? ⟨xb,0,none⟩=some (.int .i64 xv.k)/\w'.cell? ⟨xb,1,none⟩=some (.int .i64 xv.n):=fun w' hb=>⟨qzA hb hF5.st,qzA hb hB5.x0,qzA hb hB5.x1⟩
  refine hK _ _ (fun _=>hSl5 _ (Below.refl _ w5)) ?_
  clear hK K'
  try simp only[Act.put,qzF,qzG,qzH]
  refine xag (rs:=[7]) (by kernel_rfl) (by simp) ?_
  intro i hi;simp only[List.mem_cons,List.not_mem_nil,or_false] at hi;subst hi;refine xa6 (o:=⟨some 260,.buildSlice 28 1 #[(0,.tmp 259)],28,_,_,none⟩) rfl (fun K' hK=>?_)
  go_simp;refine hK _ _ (fun _=>hSl5 _ (xaj _ _)) ?_
  clear hK K'
  try simp only[Act.put,qzF,qzG,qzH]
  refine xag (rs:=[8]) (by kernel_rfl) (by simp) ?_
  intro i hi;simp only[List.mem_cons,List.not_mem_nil,or_false] at hi;subst hi;refine xa6 (o:=⟨some 261,.call ⟨.builtin .append,#[.tmp 253,.tmp 260],#[28,28]⟩,28,_,_,none⟩) rfl (fun K' hK=>?_)
  have hst:ownsAt (w5.alloc (.cells #[.int .i64 r.2.1.k,.int .i64 r.2.1.n] 27)) 0 27 2 (.slice sa nn sc) nn (xal (f.stack.take nn)):=by
   have:=hF5.stack.alloc (.cells #[.int .i64 r.2.1.k,.int .i64 r.2.1.n] 27);rw[show ({ f with stack:=f.stack.take nn }:Fr).stack.length=nn from by show (f.stack.take nn).length=nn;rw[List.length_take];have:=HN.out.2.1;omega] at this
   exact this
  obtain⟨v',w',hrun,r1,r2,r3,r4⟩:=xaF (w:=w5.alloc (.cells #[.int .i64 r.2.1.k,.int .i64 r.2.1.n] 27)) 28 28 27 _ 2 16 Tryz.underlying28 xbW rfl (by omega) 0 nn (.slice sa nn sc) (xal (f.stack.take nn)) hst w5.heap.size [.int .i64 r.2.1.k,.int .i64 r.2.1.n] rfl (heap_alloc_new w5 _) (by intro u hu;simp only[List.mem_cons,List.not_mem_nil,or_false] at hu;rcases hu with h | h<;>(subst h;rfl)) (by unfold maxLen;omega) (by omega) (by omega)
  obtain⟨a',cap',rfl,-⟩:=r1.form;obtain⟨d0,df⟩:=xbR hF5 (xaj _ _) r4;refine xat rfl (.tmp 253) (.tmp 260) 28 rfl (.slice sa nn sc) (.slice (some ⟨w5.heap.size,0,none⟩) 1 1) (.slice a' (nn+1) cap') (by simp[Act.eval,Act.put]) (by simp[Act.eval,Act.put]) hrun ?_
  have tx5:T5 xb=0:=hB5.tx
  have hSa:w'.cell? ⟨w.heap.size+4,0,none⟩=some (.slice sa nn sc)/\w'.cell? ⟨xb,0,none⟩=some (.int .i64 xv.k)/\w'.cell? ⟨xb,1,none⟩=some (.int .i64 xv.n):=by
   obtain⟨z0,z1,z2⟩:=hSl5 _ (xaj w5 (.cells #[.int .i64 r.2.1.k,.int .i64 r.2.1.n] 27))
   exact⟨d0,xcD hF5 r4 (fun _=>by rw[tx5];omega) z1,xcD hF5 r4 (fun _=>by rw[tx5];omega) z2⟩
  refine hK _ _ (fun _=>hSa) ?_
  clear hK K'
  try simp only[Act.put,qzF,qzG,qzH]
  refine xag (rs:=[9]) (by kernel_rfl) (by simp) ?_
  intro i hi;simp only[List.mem_cons,List.not_mem_nil,or_false] at hi;subst hi;refine xa6 (o:=⟨none,.store 28 (.tmp 12) (.tmp 261),0,_,_,none⟩) rfl (fun K' hK=>?_)
  go_simp;refine hK _ _ (fun h=>absurd h (by decide)) ?_
  clear hK K'
  try simp only[Act.put,qzF,qzG,qzH]
  refine xa0 (by kernel_rfl) ?_ _
  try simp only[Act.put,qzF,qzG,qzH]
  have hll:(f.stack.take nn++[r.2.1]).length=nn+1:=by have:=HN.out.2.1;simp[List.length_take];omega
  obtain⟨⟨T6,g1,g2⟩,g3⟩:=hF5.pushed (vs:=[r.2.1]) (xaj _ _) (by simp;omega) (by show ownsAt w' 0 27 2 _ (f.stack.take nn++[r.2.1]).length _;rw[hll];simpa [xal] using r1) r2 r3 r4
  have hM6:=hM5.keep g1 g3 (by omega) (by omega) (by omega) (by omega)
  have hE6:Ext T1 T6 wr:=HE.out.trans HKp1.out.size (hE5.trans hK5.size g1);have hK6:Kp (All K) T1 wr _:=HKp1.out.trans HE.out ((xdB hK5 fun t ht=>by unfold All at ht;omega).trans hE5 (xdB g3 fun t ht=>by omega))
  have G2:=hid g2;have HM6:=hid hM6;have HE6:=hid hE6;have HK6:=hid hK6;clear g1 g2 g3 hM6 hE6 hK6 r1 r2 r3 r4 hF5 hM5 hE5 hK5 hB5 hSl5 d0 df hB1;go_wp2
  exact Or.inl ⟨rfl,xiG hX HR.out HG.out HX.out HOP.out HL.out HV.out HE6.out HK6.out HM6.out (fun _=>G2.out)⟩
 ·have hj':(xaw p.X.cz kl x.name).2<0:=by omega
  have HV:=HSv.out _ (xiF hj);have c7:=hB1.mac.c7;have cf7:=xam hB1.mac.box;have HN7:=hid (hB1.mac.num7 10);have HT7:=hid hB1.mac.tag;have HK7:Hid (Kp (All K) T1 wr (w1.setCell ⟨mb,7,none⟩ (.int .i64 10))):=HKp1.out.trans HE.out ((kp1 hB1.mac 7 (.int .i64 10)).mono fun t h=>Or.inl h)
  clear hB1 HSv hj;go_wp2
  exact Or.inl ⟨rfl,xiG (r:=({ m with st:=m.st++[(⟨c,f.meth.name,(k:Int)⟩,kl)] },xaU,10)) (st:=.slice none 0 0) hX HR.out HG.out HX.out HOP.out HL.out HV.out HE.out HK7.out HN7.out (fun h=>absurd (show (10:Int)=0 from h) (by decide))⟩
end Go.Proofs.YtapbeiccodnniaaGreat
