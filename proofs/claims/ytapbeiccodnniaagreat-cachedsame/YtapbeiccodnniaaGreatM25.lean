/- A part. -/
import Derived.Test.YtapbeiccodnniaaGreatM23
namespace Go.Proofs.YtapbeiccodnniaaGreat
open Go.ChangeShapes Go.WideShapes Go.ChangeAt Go.RowKit
set_option linter.unusedSimpArgs false
set_option linter.unusedVariables false
set_option maxHeartbeats 8000000
set_option maxRecDepth 8000
theorem xb3 {w:World}(T ty e:TypeId)(z:Value)(sz bytes:Nat)(hT:Tryz.prog.underlying T=some (.slice e))(hI:(Tryz.prog.info? e).map (fun i=>(i.zero,i.size,i.bytes))=some (some z,sz,bytes))(hzs:z.cells.size=sz)(hsz:0<sz)(hbz:0<bytes)
  (B:Nat) (hB:w.heap[B]?=some (.cells #[] e (0,0))) (ad:Option Addr) (n cap:Nat) (cs:List Value) (hlen:cs.length=n*sz) (hsrc:∀ j u,cs[j]?=some u->∃ b,ad=some b/\w.cell? (b.add j)=some u) (hn:n*bytes<=140737488351232) :
  ∃ g cap' w',(Builtin.append_ #[T,T] ty #[.slice (some ⟨B,0,none⟩) 0 0,.slice ad n cap]).run Tryz.prog w=.ok (.slice (some ⟨g,0,none⟩) n cap') w'/\w'.ownsRow B e sz (.slice (some ⟨g,0,none⟩) n cap') n cs/\(g=B\/w.heap.size<=g)/\g<w'.heap.size/\Below w.heap.size w w':=by
 obtain⟨i0,hi,hz0,hz1,hz2⟩:=xa3 hI;have hBl:=xaf hB
 by_cases h0:n=0
 ·subst h0;have hcs:cs=[]:=List.eq_nil_of_length_eq_zero (by simpa using hlen)
  refine⟨B,0,w,xbT (P:=Tryz.prog) w T ty e i0 hT hi B ad cap,?_,Or.inl rfl,hBl,Below.refl _ _⟩;rw[hcs]
  exact⟨by simp,.inr ⟨B,0,#[],rfl,qzC _,hB,qzC _,by unfold maxLen;omega,by simp,by simp⟩⟩
 ·obtain⟨b,rfl⟩:∃ b,ad=some b:=by
   have:0<cs.length:=by rw[hlen];exact Nat.mul_pos (by omega) hsz
   obtain⟨b,e,-⟩:=hsrc 0 cs[0] (by simp[this])
   exact⟨b,e⟩
  have hnb:n<=140737488351232:=qzD (Nat.le_mul_of_pos_right n hbz) hn;obtain⟨v',w',hrun,r1,r2⟩:=run_append_arg_grows (P:=Tryz.prog) w T ty e i0 _ sz bytes hT hi hz0 hz1 hz2 hzs hsz ⟨B,0,none⟩ 0 0 [] (by simp) (fun j u hu=>by simp at hu) b n cap cs hlen (fun j u hu=>by obtain⟨b',e,h⟩:=hsrc j u hu;cases e;exact h) (by omega) (by unfold maxLen;omega) (by rw[Nat.zero_add];omega)
  simp only[Nat.zero_add,List.nil_append] at r1;obtain⟨g,cap',rfl,hg,hgl⟩:=r1.form (by omega)
  refine⟨g,cap',w',hrun,?_,Or.inr hg,hgl,(Below.refl _ _).grown r2 (qzC _) (fun k hk=>by cases hk)⟩
  obtain⟨q1,q2⟩:=r1;refine⟨q1,?_⟩
  rcases q2 with q2 | ⟨g',c',cur,e,h1,h2⟩
  ·exact .inl q2
  ·exact .inr ⟨g',c',cur,e,by omega,h2⟩
theorem xkB {α:Type}{E:Lay α}{sz bytes:Nat}(G:Good E sz){t:TypeId}{Q:Nat->Prop}{B n:Nat}{v:Value}{w:World}{cs:List Value}{xs:List α}(hown:ownsAt w B t sz v n cs)(hc:Cells E sz Q w cs xs)(hn:xs.length=n)(hQ:∀ b,B<=b->b<w.heap.size->Q b)(hby:n*bytes<=140737488351232):IsRow E sz bytes Q w v xs:=by
 obtain⟨h0,⟨rfl,h1⟩ | ⟨g,o,cap,cur,rfl,h3,h4,h5,h6,h7,h8⟩⟩:=hown
 ·obtain rfl:=List.eq_nil_of_length_eq_zero (hn.trans h1)
  exact xbG
 ·subst hn;refine⟨_,_,rfl,h5,h6,hby,fun i x hx=>⟨g,o,rfl,hQ _ h3 (xaf h4),G.move (hc.2 i x hx) (fun _ h=>h) (.refl _ _) fun k hk v hv=>?_⟩⟩
  rw[← h8,List.getElem?_take] at hv
  split at hv
  ·rw[List.getElem?_drop] at hv;rw[qzB h4,Nat.add_assoc]
   simpa using hv
  ·cases hv
theorem tk0 (k:Nat):(List.replicate k xaU).length=k:=List.length_replicate
section
variable {p:Rp} {T:Nat->Nat} {U w4 w5:World} {mb:Nat} {m:Mc RSt} {deep err:Int} {hv sv ov:Value}
theorem xoa {v0 v':Value}{cs:List Value}{vb k:Nat}{c:Int}(h:RMac p T U mb m deep err hv sv ov)(hcs:Cells xlt 2 (Fx T U) U cs m.heap)(hb4:Below U.heap.size U w4)(hvb:U.heap.size<=vb)(hvw:w4.heap[vb]?=some (.cells (xal (List.replicate k xaU)).toArray 27 (0,0)))(hvg:some vb≠v0.ownBlock)
  (r1:ownsAt w5 U.heap.size 64 2 v' (m.heap.length+1) (cs++[.int .i64 c,.slice (some ⟨vb,0,none⟩) k k])) (r3:Below U.heap.size w4 w5) (r4:∀ b,b<w4.heap.size->some b≠v0.ownBlock->w5.heap[b]?=w4.heap[b]?) (hl:m.heap.length<=1000) (hk:k<=2147483647) :
  RMac p (xau T U 0) (w5.setCell ⟨mb,1,none⟩ v') mb { m with heap:=m.heap++[⟨c,List.replicate k xaU⟩] } deep err v' sv ov/\Kp (fun t=>t=1) T U (w5.setCell ⟨mb,1,none⟩ v'):=by
 have hlm:=xaf h.box;have hb5:Below U.heap.size U w5:=hb4.trans r3;have k1:Kp (fun t=>t=1) T U (w5.setCell ⟨mb,1,none⟩ v'):=(Kp.of_below hb5).set (fun _=>h.tag) _ _
 have hex:=xao T U 0;refine⟨?_,k1⟩;have hv5:w5.heap[vb]?=some (.cells (xal (List.replicate k xaU)).toArray 27 (0,0)):=by rw[r4 vb (xaf hvw) hvg];exact hvw
 have hbox:w5.heap[mb]?=some (RB p m deep err hv sv ov):=by rw[hb5.block _ hlm];exact h.box
 have hb':=xj1 hbox (m.heap++[⟨c,List.replicate k xaU⟩]) v';have hv6:(w5.setCell ⟨mb,1,none⟩ v').heap[vb]?=some (.cells (xal (List.replicate k xaU)).toArray 27 (0,0)):=by rw[xab (by omega)];exact hv5
 have hr1:ownsAt (w5.setCell ⟨mb,1,none⟩ v') U.heap.size 64 2 v' (m.heap.length+1) (cs++[.int .i64 c,.slice (some ⟨vb,0,none⟩) k k]):=r1.keep fun g hg=>xab (by have:=r1.lt g hg;omega) _
 generalize hU:w5.setCell ⟨mb,1,none⟩ v'=V at *;have hall:∀ b,U.heap.size<=b->b<V.heap.size->Fx (xau T U 0) V b:=fun b h1 h2=>⟨h2,xav h1⟩
 have hsz:U.heap.size<=V.heap.size:=k1.size;have hc0:Cells xlt 2 (Fx (xau T U 0) V) V cs m.heap:=hcs.keep xaD (Keeps.of_block fun b hb hl=>k1.blk b hl (by rw[hb.2];omega)) fun b hb=>⟨by omega,by rw[hex b hb.1];exact hb.2⟩
 have hv7:xaB (Fx (xau T U 0) V) V (.slice (some ⟨vb,0,none⟩) k k) (List.replicate k xaU):=by
  have:=xgp (P:=Fx (xau T U 0) V) hv6 (hall vb hvb (xaf hv6)) (by rw[tk0];omega)
  rw[tk0] at this
  exact this
 have hc1:Cells xlt 2 (Fx (xau T U 0) V) V [.int .i64 c,.slice (some ⟨vb,0,none⟩) k k] [⟨c,List.replicate k xaU⟩]:=Cells.one xaD rfl ⟨rfl,_,rfl,hv7⟩;have hs1:=h.sites.keep (w':=V) fun b hg=>k1.blk b (h.sites.lt b hg).2 (by rw[h.stag b hg];omega)
 have ho1:=h.of.keep (w':=V) fun b hg=>k1.blk b (h.of.lt b hg).2 (by rw[h.otag b hg];omega)
 exact⟨hb',by rw[hex _ hlm];exact h.tag,h.cls.fx xaz hex k1 (by omega),xkB xaD hr1 (hc0.append xaD hc1) (by simp) hall (by omega),hs1,fun b hg=>by rw[hex _ (h.sites.lt b hg).2];exact h.stag b hg,ho1,fun b hg=>by rw[hex _ (h.of.lt b hg).2];exact h.otag b hg⟩
end
section
variable {p:Rp} {d:Nat} {T T1 T2:Nat->Nat} {w wr w2:World} {mb K:Nat} {R:Mc RSt × QV × Int} {av kv:Value} {gk:Nat} {at' at2:Value} {m:Mc RSt} {f:Fr}
variable {c:Int} {n1 n2 n3 G' k:Nat} {x:QI} {hv sv ov st st':Value} {U w':World}
theorem xkR (hX:Rx p)(hR:BdR p d T w mb K R av kv gk at' T1 m f 0 wr)(hg:gk=G'+1)(hx:NxOk f k x)(hop:x.op=13)(h6:60<=m.heap.length){W2:World}(hE:Ext T1 T2 wr)(hK:Kp (All K) T1 wr W2)(hM:RMac p T2 W2 mb m (20-(d:Int)) 15 hv sv ov) :
  BdX p d T w mb K R av kv c n1 n2 n3 G' (.int .i64 ((k:Int)+1)) W2:=by
 have hr:xan (xa1 p.E d) p.E d m { f with pc:=f.pc+1 } f.pc x=(m,{ f with pc:=f.pc+1 },15):=by
  rw[xbK _ _ (by omega)];unfold xcy;rw[if_neg (by omega),if_neg (by omega),if_neg (by omega),if_neg (by omega),if_pos hop]
  unfold xbQ;rw[if_pos (Or.inl h6)]
 exact xcj hX hR hg hx (by omega) hr hE hK hM (fun h=>by cases h) (fun h=>by cases h) (fun h=>by cases h)
theorem xmn (hX:Rx p)(hR:BdR p d T w mb K R av kv gk at' T1 m f 0 wr)(hg:gk=G'+1)(hx:NxOk f k x)(hop:x.op=13)(h6:¬ 60<=m.heap.length){sl:Nat}(hsl:xaP p.X.cz x.a=(sl:Int))(hs2:sl<=2147483647)(hL:xiO c n1 n2 n3 f){W2:World}(hE:Ext T1 T2 wr)(hK:Kp (All K) T1 wr W2)(hM:RMac p T2 W2 mb { m with heap:=m.heap++[⟨x.a,List.replicate sl xaU⟩] } (20-(d:Int)) 0 hv sv ov)(hF:RF T2 K W2 w.heap.size { f with stack:=f.stack++[⟨4,(m.heap.length:Int)⟩] } av kv st) :
  BdX p d T w mb K R av kv c n1 n2 n3 G' (.int .i64 ((k:Int)+1)) W2:=by
 have hr:xan (xa1 p.E d) p.E d m { f with pc:=f.pc+1 } f.pc x=({ m with heap:=m.heap++[⟨x.a,List.replicate sl xaU⟩] },({ f with pc:=f.pc+1 }:Fr).push ⟨4,(m.heap.length:Int)⟩,0):=by
  rw[xbK _ _ (by omega)];unfold xcy;rw[if_neg (by omega),if_neg (by omega),if_neg (by omega),if_neg (by omega),if_pos hop]
  unfold xbQ
  have hc:¬ (60<=m.heap.length\/2147483647<xaP p.E.cz x.a):=by
   show ¬ (60<=m.heap.length\/2147483647<xaP p.X.cz x.a)
   rw[hsl];omega
  rw[if_neg hc]
  show (({ m with heap:=m.heap++[⟨x.a,List.replicate (xaP p.X.cz x.a).toNat xaU⟩] }:Mc RSt),_,_)=_
  rw[hsl];rfl
 exact xcj hX hR hg hx (by omega) hr hE hK hM (fun _=>⟨_,hF.at _⟩) (fun _=>by show f.pc+1=_;rw[hx.pc]) (fun _=>hL)
end
theorem xlY {p:Rp}(hX:Rx p)(c:Int):xbL p.X.cz/\∃ sl:Nat,xaP p.X.cz c=(sl:Int)/\sl<=1000:=by
 have ho:=xd1 hX.right;obtain⟨hs,-,-,-⟩:=xbE hX.right;have hm:=hs.many;have h:=xcv ho (p.X.cz.length+1) c 0 (Int.le_refl _);have e:xaP p.X.cz c=upE xd6 p.X.cz (p.X.cz.length+1) c 0:=rfl;rw[← e] at h
 exact⟨ho,(xaP p.X.cz c).toNat,by omega,by omega⟩
end Go.Proofs.YtapbeiccodnniaaGreat
