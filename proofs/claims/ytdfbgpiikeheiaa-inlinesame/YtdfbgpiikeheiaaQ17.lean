/- A part. -/
import Derived.Test.YtdfbgpiikeheiaaQ15
import Derived.OneCell
import Derived.Laws.OwnMore
namespace Go.Proofs.Ytdfbgpiikeheiaa
open Go.ChangeShapes Go.WideShapes Go.ChangeAt Go.RowKit
set_option linter.unusedSimpArgs false
set_option linter.unusedVariables false
set_option maxHeartbeats 8000000
set_option maxRecDepth 8000
theorem xm8 {σ:Type}(m:Mc σ)(f:Fr)(a b:Int):(xaV m f a b).2.1.fast=f.fast:=by
 unfold xaV
 by_cases h:b<=a
 ·simp only[h,if_true];split<;>rfl
 ·simp only[h,if_false];split<;>rfl
theorem xpS {σ:Type}(ent:Ent σ)(E:Env σ)(d:Nat)(m:Mc σ)(f:Fr)(a:Int)(x:QI)(hf:f.fast=false):(xaj ent E d m f a x).2.1.fast=false:=by
 unfold xaj
 split
 ·exact hf
 ·split
  ·exact hf
  ·split
   ·exact hf
   ·split
    ·exact hf
    ·split
     ·exact hf
     ·split
      ·unfold xbV;split<;>exact hf
      ·split
       ·unfold xbD;simp only;split<;>exact hf
       ·split
        ·rw[xm8];exact hf
        ·split
         ·unfold xbz
          split
          ·exact hf
          ·split
           ·rw[xm8];exact hf
           ·exact hf
         ·unfold xbQ;rw[if_pos hf];exact hf
theorem xmS {P:Nat->Prop}(hs:List QO)(hv:Value)(v:QV)(n:Int)(w:World)(h:xaD P w hv hs):Calls Try.prog 87 #[hv,VV v,.int .i64 n] w fun e w'=>e=.returned (VV (xcF hs v n))/\Below w.heap.size w w':=by
 have hb1:=xbP w (.cells #[.int .i64 v.k,.int .i64 v.n] 27) (.cells #[.int .i64 0,.int .i64 0] 27);have h1:=h.later xaE hb1;have hR0:=xjp w v;obtain⟨a,cap,rfl,-,hcap,-,-⟩:=id h;unfold maxLen at hcap;clear h;go_enter Try.func87,Try.ntmps87
 go_upto_region 1 with (fail)
 generalize ((w.alloc (.cells #[.int .i64 v.k,.int .i64 v.n] 27)).alloc (.cells #[.int .i64 0,.int .i64 0] 27))=W at *;obtain⟨b0,b1,r0,r1,rf,sz⟩:=id hR0
 cases hi:xdJ hs.length v with
 | true=>
  obtain⟨j,o,hj,hjl,hjo,hob⟩:=xgj hi;have hk:v.k=4:=by unfold xdJ at hi;have:=of_decide_eq_true hi;exact this.1
  have HE:Hid (xcF hs v n=xaM o.slots n):=by show _=_;unfold xcF;rw[hob];rfl
  rw[hj] at b1;rw[hk] at b0;obtain⟨a',cap',e,-,-,-,hrow⟩:=h1
  cases e
  obtain⟨b,of,rfl,-,-,sv,e1,hsl⟩:=hrow j o hjo;obtain⟨asl,csl,rfl,hl2,hc2,-,hrs⟩:=id hsl;unfold maxLen at hc2;have hj1:(j:Int)<(hs.length:Int):=by omega
  have hj0:(0:Int)<=(j:Int):=by omega
  clear hj hjo hob hrow hk hi;go_wp2
  go_loopg [31] o.slots.length (fun g c wr=>∃ q:Nat,q+g=o.slots.length/\c=.int .i64 q/\Below W.heap.size W wr/\∀ i:Nat,i<q->(i:Int)≠n)
  case atStart=>exact⟨0,by omega,rfl,qzL _ _,fun i hi=>by omega⟩
  case round=>
   obtain⟨q,hq,rfl,hbel,hno⟩:=hrel;have HN:Hid (∀ i:Nat,i<q->(i:Int)≠n):=hno;clear hno
   by_cases hlt:q<o.slots.length
   ·obtain⟨b2,o2,rfl,-,y0,y1⟩:=hrs q o.slots[q] (by simp[hlt])
    have hxq:Hid (o.slots[q]?=some o.slots[q]):=by show _=_;simp[hlt]
    generalize o.slots[q]=x at *;simp only[Nat.add_zero] at y0;have z0:=qzA hbel y0;have z1:=qzA hbel y1;have hq1:(q:Int)<(o.slots.length:Int):=by omega
    have hq0:(0:Int)<=(q:Int):=by omega
    have hbx:=xak wr (.cells #[.int .i64 x.k,.int .i64 x.n] 27);have hsz:=hbel.size;clear hrs
    by_cases hn:(q:Int)=n
    ·have HV:Hid (xaM o.slots n=x):=by show _=_;unfold xaM;rw[← hn,if_neg (by omega)];simp[hxq.out]
     have s0:=qzA hbx (qzA hbel r0);have s1:=qzA hbx (qzA hbel r1);have sf:∀ o,(wr.alloc (.cells #[.int .i64 x.k,.int .i64 x.n] 27)).frozen? ⟨w.heap.size+1,o,none⟩=false:=fun o=>((hbx.frozen (p:=⟨w.heap.size+1,o,none⟩) (by simp;omega)).trans (hbel.frozen (p:=⟨w.heap.size+1,o,none⟩) (by simp;omega))).trans (rf o)
     have hne:¬ w.heap.size+1=wr.heap.size:=by omega
     have hne':¬ wr.heap.size=w.heap.size+1:=by omega
     subst hn;go_wp2;refine qzK (v:=VV x) ?_ rfl ⟨by rw[HE.out,HV.out],(((xaf hb1 hbel).alloc (by omega) _).setCell (by simp) _).setCell (by simp) _⟩
     simp[results,Try.results87,go_sem,s0,s1]
    ·have hd:((q:Int) == n)=false:=by simpa using hn
     have HQ:=hid hn;clear hn;go_wp2
     go_roundg (gk-1)
     case measure=>omega
     case rel=>
      refine⟨q+1,by omega,by go_num,xaf hbel hbx,fun i hi=>?_⟩
      by_cases hiq:i=q
      ·subst hiq;exact HQ.out
      ·exact HN.out i (by omega)
   ·obtain rfl:q=o.slots.length:=by omega
    have HV:Hid (xaM o.slots n=xaU):=by
     show _=_
     unfold xaM
     split
     ·rfl
     ·rename_i hn;have:¬ n.toNat<o.slots.length:=fun h=>HN.out n.toNat h (by omega)
      rw[List.getElem?_eq_none (by omega)];rfl
    have hsz:=hbel.size;have s0:=qzA hbel r0;have s1:=qzA hbel r1;have sf:∀ o,wr.frozen? ⟨w.heap.size+1,o,none⟩=false:=fun o=>(hbel.frozen (p:=⟨w.heap.size+1,o,none⟩) (by simp;omega)).trans (rf o)
    go_wp2;refine qzK (v:=VV xaU) ?_ rfl ⟨by rw[HE.out,HV.out],((xaf hb1 hbel).setCell (by simp) _).setCell (by simp) _⟩
    simp[results,Try.results87,go_sem,s0,s1]
 | false=>
  have hN:=xeI hi;have hi':¬ (v.k=4/\0<=v.n/\v.n<hs.length):=by unfold xdJ at hi;exact of_decide_eq_false hi
  have HE:Hid (xcF hs v n=xaU):=by show _=_;unfold xcF;rw[hN];rfl
  clear hi hN h1
  by_cases h4:v.k=4
  ·rw[h4] at b0
   by_cases hn:0<=v.n
   ·have hn2:¬ v.n<(hs.length:Int):=by omega
    have hn3:(hs.length:Int)<=v.n:=by omega
    clear hi' h4;go_wp2;refine qzK (v:=VV xaU) ?_ rfl ⟨by rw[HE.out],(hb1.setCell (by simp) _).setCell (by simp) _⟩
    simp[results,Try.results87,go_sem,r0,r1]
   ·have hn3:v.n<0:=by omega
    clear hi' h4;go_wp2;refine qzK (v:=VV xaU) ?_ rfl ⟨by rw[HE.out],(hb1.setCell (by simp) _).setCell (by simp) _⟩
    simp[results,Try.results87,go_sem,r0,r1]
  ·have h4':(v.k == 4)=false:=by simpa using h4
   clear hi' h4;go_wp2;refine qzK (v:=VV xaU) ?_ rfl ⟨by rw[HE.out],(hb1.setCell (by simp) _).setCell (by simp) _⟩
   simp[results,Try.results87,go_sem,r0,r1]
abbrev RSt:=List (QS × Int)
def xcX (X:QW)(fuel:Int):Env RSt:=⟨X.cz,fuel,fun l s c name=>(l++[(s,c)],xaB X.cz c name),xgC⟩
def xcS:RSt->List Value
 | []=>[]
 | p :: r=>.int .i64 p.1.cls :: .string p.1.name :: .int .i64 p.1.at' :: xcS r
def xcC:RSt->List Value
 | []=>[]
 | p :: r=>.int .i64 p.2 :: xcC r
theorem xeS:∀ q r,xcS (q++r)=xcS q++xcS r
 | [],r=>rfl
 | p :: q,r=>by simp[xcS,xeS q r]
theorem xeT:∀ q r,xcC (q++r)=xcC q++xcC r
 | [],r=>rfl
 | p :: q,r=>by simp[xcC,xeT q r]
structure Rp where
 X:QW
 fuel:Int
 cv:Value
abbrev RB (p:Rp)(m:Mc RSt)(deep err:Int)(hv sv ov:Value):Obj:=.cells #[p.cv,hv,.int .i64 p.X.ez,.int .i64 p.fuel,.int .i64 m.sz_,.int .i64 m.tz,.int .i64 deep,.int .i64 err,sv,ov] 113 (0,0)
structure RMac (p:Rp)(T:Nat->Nat)(w:World)(mb:Nat)(m:Mc RSt)(deep err:Int)(hv sv ov:Value):Prop where
 box:w.heap[mb]?=some (RB p m deep err hv sv ov)
 tag:T mb=1
 cls:xai (Fx T w) w p.cv p.X.cz
 heap:xaD (Fx T w) w hv m.heap
 sites:ownsAt w 0 42 3 sv m.st.length (xcS m.st)
 stag:∀ g,sv.ownBlock=some g->T g=2
 of:ownsAt w 0 3 1 ov m.st.length (xcC m.st)
 otag:∀ g,ov.ownBlock=some g->T g=3
section
variable {p:Rp} {T T':Nat->Nat} {w w':World} {mb:Nat} {m m':Mc RSt} {deep err deep' err':Int} {hv sv ov:Value}
theorem RMac.keep {S:Nat->Prop}(h:RMac p T w mb m deep err hv sv ov)(e:Ext T T' w)(k:Kp S T w w')(h0:¬ S 0)(h1:¬ S 1)(h2:¬ S 2)(h3:¬ S 3):RMac p T' w' mb m deep err hv sv ov:=
 ⟨k.held h.box (by rw[h.tag];exact h1),by rw[e _ (xal h.box)];exact h.tag,h.cls.fx xaA e k h0,h.heap.fx xaE e k h0,h.sites.keep fun g hg=>k.blk g (h.sites.lt g hg).2 (by rw[h.stag g hg];exact h2),fun g hg=>by rw[e _ (h.sites.lt g hg).2];exact h.stag g hg,h.of.keep fun g hg=>k.blk g (h.of.lt g hg).2 (by rw[h.otag g hg];exact h3),fun g hg=>by rw[e _ (h.of.lt g hg).2];exact h.otag g hg⟩
theorem RMac.later (h:RMac p T w mb m deep err hv sv ov)(hb:Below w.heap.size w w'):RMac p T w' mb m deep err hv sv ov:=h.keep (S:=fun _=>False) (.refl _ _) (.of_below hb) id id id id
theorem RMac.turn (h:RMac p T w mb m deep err hv sv ov)(k:Kp (fun t=>t=1) T w w')(hb:w'.heap[mb]?=some (RB p m' deep' err' hv sv ov))(e:m'.heap=m.heap)(e2:m'.st=m.st):RMac p T w' mb m' deep' err' hv sv ov:=by
 refine⟨hb,h.tag,h.cls.fx xaA (.refl _ _) k (by omega),by rw[e];exact h.heap.fx xaE (.refl _ _) k (by omega),?_,h.stag,?_,h.otag⟩
 ·rw[e2];exact h.sites.keep fun g hg=>k.blk g (h.sites.lt g hg).2 (by rw[h.stag g hg];omega)
 ·rw[e2];exact h.of.keep fun g hg=>k.blk g (h.of.lt g hg).2 (by rw[h.otag g hg];omega)
theorem RMac.c0 (h:RMac p T w mb m deep err hv sv ov):w.cell? ⟨mb,0,none⟩=some p.cv:=by rw[qzB h.box];rfl
theorem RMac.c1 (h:RMac p T w mb m deep err hv sv ov):w.cell? ⟨mb,1,none⟩=some hv:=by rw[qzB h.box];rfl
theorem RMac.c2 (h:RMac p T w mb m deep err hv sv ov):w.cell? ⟨mb,2,none⟩=some (.int .i64 p.X.ez):=by rw[qzB h.box];rfl
theorem RMac.c3 (h:RMac p T w mb m deep err hv sv ov):w.cell? ⟨mb,3,none⟩=some (.int .i64 p.fuel):=by rw[qzB h.box];rfl
theorem RMac.c4 (h:RMac p T w mb m deep err hv sv ov):w.cell? ⟨mb,4,none⟩=some (.int .i64 m.sz_):=by rw[qzB h.box];rfl
theorem RMac.c5 (h:RMac p T w mb m deep err hv sv ov):w.cell? ⟨mb,5,none⟩=some (.int .i64 m.tz):=by rw[qzB h.box];rfl
theorem RMac.c6 (h:RMac p T w mb m deep err hv sv ov):w.cell? ⟨mb,6,none⟩=some (.int .i64 deep):=by rw[qzB h.box];rfl
theorem RMac.c7 (h:RMac p T w mb m deep err hv sv ov):w.cell? ⟨mb,7,none⟩=some (.int .i64 err):=by rw[qzB h.box];rfl
theorem RMac.c8 (h:RMac p T w mb m deep err hv sv ov):w.cell? ⟨mb,8,none⟩=some sv:=by rw[qzB h.box];rfl
theorem RMac.c9 (h:RMac p T w mb m deep err hv sv ov):w.cell? ⟨mb,9,none⟩=some ov:=by rw[qzB h.box];rfl
theorem xpV (h:w.heap[mb]?=some (RB p m deep err hv sv ov))(n:Int):(w.setCell ⟨mb,4,none⟩ (.int .i64 n)).heap[mb]?=some (RB p { m with sz_:=n } deep err hv sv ov):=by rw[xag h];rfl
theorem xp2 (h:w.heap[mb]?=some (RB p m deep err hv sv ov))(n:Int):(w.setCell ⟨mb,5,none⟩ (.int .i64 n)).heap[mb]?=some (RB p { m with tz:=n } deep err hv sv ov):=by rw[xag h];rfl
theorem xqX (h:w.heap[mb]?=some (RB p m deep err hv sv ov))(n:Int):(w.setCell ⟨mb,6,none⟩ (.int .i64 n)).heap[mb]?=some (RB p m n err hv sv ov):=by rw[xag h];rfl
theorem xpR (h:w.heap[mb]?=some (RB p m deep err hv sv ov))(n:Int):(w.setCell ⟨mb,7,none⟩ (.int .i64 n)).heap[mb]?=some (RB p m deep n hv sv ov):=by rw[xag h];rfl
theorem xnH (h:w.heap[mb]?=some (RB p m deep err hv sv ov))(xs:List QO)(hv':Value):(w.setCell ⟨mb,1,none⟩ hv').heap[mb]?=some (RB p { m with heap:=xs } deep err hv' sv ov):=by rw[xag h];rfl
theorem xqg (h:w.heap[mb]?=some (RB p m deep err hv sv ov))(sv':Value):(w.setCell ⟨mb,8,none⟩ sv').heap[mb]?=some (RB p m deep err hv sv' ov):=by rw[xag h];rfl
theorem xqA (h:w.heap[mb]?=some (RB p m deep err hv sv ov))(l:RSt)(ov':Value):(w.setCell ⟨mb,9,none⟩ ov').heap[mb]?=some (RB p { m with st:=l } deep err hv sv ov'):=by rw[xag h];rfl
theorem RMac.num4 (h:RMac p T w mb m deep err hv sv ov)(n:Int):RMac p T (w.setCell ⟨mb,4,none⟩ (.int .i64 n)) mb { m with sz_:=n } deep err hv sv ov:=h.turn ((Kp.refl _ _ _).set (fun _=>h.tag) _ _) (xpV h.box n) rfl rfl
theorem RMac.num5 (h:RMac p T w mb m deep err hv sv ov)(n:Int):RMac p T (w.setCell ⟨mb,5,none⟩ (.int .i64 n)) mb { m with tz:=n } deep err hv sv ov:=h.turn ((Kp.refl _ _ _).set (fun _=>h.tag) _ _) (xp2 h.box n) rfl rfl
theorem RMac.num6 (h:RMac p T w mb m deep err hv sv ov)(n:Int):RMac p T (w.setCell ⟨mb,6,none⟩ (.int .i64 n)) mb m n err hv sv ov:=h.turn ((Kp.refl _ _ _).set (fun _=>h.tag) _ _) (xqX h.box n) rfl rfl
theorem RMac.num7 (h:RMac p T w mb m deep err hv sv ov)(n:Int):RMac p T (w.setCell ⟨mb,7,none⟩ (.int .i64 n)) mb m deep n hv sv ov:=h.turn ((Kp.refl _ _ _).set (fun _=>h.tag) _ _) (xpR h.box n) rfl rfl
theorem kp1 (h:RMac p T w mb m deep err hv sv ov)(o:Nat)(v:Value):Kp (fun t=>t=1) T w (w.setCell ⟨mb,o,none⟩ v):=(Kp.refl _ _ _).set (fun _=>h.tag) _ _
end
structure RF (T:Nat->Nat)(K:Nat)(w:World)(B:Nat)(f:Fr)(av kv sv:Value):Prop where
 m0:w.heap[B]?=some (.cells #[.string f.meth.name,.int .i64 f.meth.args,.int .i64 f.meth.temps,.int .i64 f.meth.prim,kv] 55 (0,0))
 s0:w.heap[B+1]?=some (.cells #[.int .i64 f.self.k,.int .i64 f.self.n] 27 (0,0))
 tm:w.heap[B+3]?=some (.cells (xam f.temps).toArray 27 (0,0))
 sb:w.heap[B+4]?=some (.cells #[sv] 28 (0,0))
 tB:T B=4
 t1:T (B+1)=4
 t3:T (B+3)=K+1
 t4:T (B+4)=K
 stack:ownsAt w 0 27 2 sv f.stack.length (xam f.stack)
 stag:∀ g,sv.ownBlock=some g->T g=K+2
 few:f.stack.length<=1000000
 args:xaO (Fx T w) w av f.args
 code:xaR (Fx T w) w kv f.code
 pos:5<=K
section
variable {T T':Nat->Nat} {K:Nat} {w w':World} {B:Nat} {f f':Fr} {av kv sv:Value}
theorem RF.keep {S:Nat->Prop}(h:RF T K w B f av kv sv)(e:Ext T T' w)(k:Kp S T w w')(h0:¬ S 0)(h4:¬ S 4)(hK:¬ S K)(h1:¬ S (K+1))(h2:¬ S (K+2)):RF T' K w' B f av kv sv:=
 ⟨k.held h.m0 (by rw[h.tB];exact h4),k.held h.s0 (by rw[h.t1];exact h4),k.held h.tm (by rw[h.t3];exact h1),k.held h.sb (by rw[h.t4];exact hK),by rw[e _ (xal h.m0)];exact h.tB,by rw[e _ (xal h.s0)];exact h.t1,by rw[e _ (xal h.tm)];exact h.t3,by rw[e _ (xal h.sb)];exact h.t4,
  h.stack.keep fun g hg=>k.blk g (h.stack.lt g hg).2 (by rw[h.stag g hg];exact h2),fun g hg=>by rw[e _ (h.stack.lt g hg).2];exact h.stag g hg,h.few,h.args.fx xa1 e k h0,h.code.fx xa2 e k h0,h.pos⟩
theorem RF.later (h:RF T K w B f av kv sv)(hb:Below w.heap.size w w'):RF T K w' B f av kv sv:=h.keep (S:=fun _=>False) (.refl _ _) (.of_below hb) id id id id id
theorem RF.at (h:RF T K w B f av kv sv)(n:Int):RF T K w B { f with pc:=n } av kv sv:=⟨h.m0,h.s0,h.tm,h.sb,h.tB,h.t1,h.t3,h.t4,h.stack,h.stag,h.few,h.args,h.code,h.pos⟩
theorem RF.k0 (h:RF T K w B f av kv sv):w.cell? ⟨B,0,none⟩=some (.string f.meth.name):=by rw[qzB h.m0];rfl
theorem RF.k4 (h:RF T K w B f av kv sv):w.cell? ⟨B,4,none⟩=some kv:=by rw[qzB h.m0];rfl
theorem RF.v0 (h:RF T K w B f av kv sv):w.cell? ⟨B+1,0,none⟩=some (.int .i64 f.self.k):=by rw[qzB h.s0];rfl
theorem RF.v1 (h:RF T K w B f av kv sv):w.cell? ⟨B+1,1,none⟩=some (.int .i64 f.self.n):=by rw[qzB h.s0];rfl
theorem RF.st (h:RF T K w B f av kv sv):w.cell? ⟨B+4,0,none⟩=some sv:=by rw[qzB h.sb];rfl
theorem RF.sf (h:RF T K w B f av kv sv)(o:Nat):w.frozen? ⟨B+4,o,none⟩=false:=xap h.sb o
theorem xmF (h:w.heap[B+4]?=some (.cells #[sv] 28 (0,0)))(sv':Value):(w.setCell ⟨B+4,0,none⟩ sv').heap[B+4]?=some (.cells #[sv'] 28 (0,0)):=by rw[xag h];rfl
theorem RF.stacked {sv':Value}{l:List QV}(h:RF T K w B f av kv sv)(e:Ext T T' w)(k:Kp (fun t=>t=K\/t=K+2) T w w')(hb:w'.heap[B+4]?=some (.cells #[sv'] 28 (0,0)))(ho:ownsAt w' 0 27 2 sv' l.length (xam l))(hg:∀ g,sv'.ownBlock=some g->T' g=K+2)(hl:l.length<=1000000):RF T' K w' B { f with stack:=l } av kv sv':=by
 have hp:=h.pos
 exact⟨k.held h.m0 (by rw[h.tB];omega),k.held h.s0 (by rw[h.t1];omega),k.held h.tm (by rw[h.t3];omega),hb,by rw[e _ (xal h.m0)];exact h.tB,by rw[e _ (xal h.s0)];exact h.t1,by rw[e _ (xal h.tm)];exact h.t3,by rw[e _ (xal h.sb)];exact h.t4,ho,hg,hl,h.args.fx xa1 e k (by omega),h.code.fx xa2 e k (by omega),hp⟩
theorem RF.pushed {U:World}{sv':Value}{vs:List QV}(h:RF T K w B f av kv sv)(hU:Below w.heap.size w U)(hn:(f.stack++vs).length<=1000000)
  (r1:ownsAt w' 0 27 2 sv' (f.stack++vs).length (xam f.stack++xam vs)) (r2:sv'.ownBlock=sv.ownBlock\/∃ g,sv'.ownBlock=some g/\U.heap.size<=g) (r3:Below 0 U w') (r4:∀ b,b<U.heap.size->some b≠sv.ownBlock->w'.heap[b]?=U.heap[b]?) :
  (∃ T',Ext T T' w/\RF T' K (w'.setCell ⟨B+4,0,none⟩ sv') B { f with stack:=f.stack++vs } av kv sv')/\Kp (fun t=>t=K\/t=K+2) T w (w'.setCell ⟨B+4,0,none⟩ sv'):=by
 have hlt:=xal h.sb;have hp:=h.pos
 have kU:Kp (fun t=>t=K\/t=K+2) T w w':=⟨r3.os.trans hU.os,r3.tape.trans hU.tape,r3.output.trans hU.output,qzD hU.size r3.size,fun b hb hs=>by
  rw[r4 b (qzE hb hU.size) (fun e=>hs (Or.inr (h.stag b e.symm))),hU.block b hb]⟩
 have k:=kU.set (b:=B+4) (fun _=>Or.inl h.t4) 0 sv'
 obtain⟨T',hT,hg⟩:∃ T',Ext T T' w/\∀ g,sv'.ownBlock=some g->T' g=K+2:=by
  rcases r2 with e | ⟨g,e,hg⟩
  ·exact⟨T,.refl _ _,fun g hg=>h.stag g (by rw[← e];exact hg)⟩
  ·exact⟨xjd T g (K+2),xez (qzD hU.size hg),fun g' h'=>by rw[e] at h';cases h';exact xdI _ _ _⟩
 have hnb:some (B+4)≠sv.ownBlock:=fun e=>by have:=h.stag (B+4) e.symm;rw[h.t4] at this;omega
 have hbx:w'.heap[B+4]?=some (.cells #[sv] 28 (0,0)):=by rw[r4 _ (qzE hlt hU.size) hnb,hU.block _ hlt];exact h.sb
 refine⟨⟨T',hT,h.stacked hT k (xmF hbx sv') ?_ hg hn⟩,k⟩;rw[xcA]
 exact r1.keep fun g hg'=>xac (fun e=>by have:=hg g hg';rw[e,hT _ hlt,h.t4] at this;omega) _
theorem RF.cut {a:Option Addr}{cap n:Nat}(h:RF T K w B f av kv (.slice a f.stack.length cap))(hn:n<=f.stack.length)(k:Kp (fun t=>t=K) T w w')(hb:w'.heap[B+4]?=some (.cells #[.slice a n cap] 28 (0,0))):RF T K w' B { f with stack:=f.stack.take n } av kv (.slice a n cap):=by
 have hfew:=h.few;have hl:(f.stack.take n).length=n:=by rw[List.length_take];omega
 have ho:∀ g,(Value.slice a n cap).ownBlock=some g->T g=K+2:=fun g hg=>h.stag g (by cases a<;>exact hg)
 refine h.stacked (.refl _ _) (k.mono fun t h=>Or.inl h) hb ?_ ho (by omega)
 rw[hl];have:=h.stack.take hn
 exact this.keep fun g hg=>k.blk g (this.lt g hg).2 (by rw[ho g hg];omega)
theorem RF.temped (h:RF T K w B f av kv sv)(j:Nat)(v:QV):RF T K ((w.setCell ⟨B+3,j*2,none⟩ (.int .i64 v.k)).setCell ⟨B+3,j*2+1,none⟩ (.int .i64 v.n)) B { f with temps:=f.temps.set j v } av kv sv/\Kp (fun t=>t=K+1) T w ((w.setCell ⟨B+3,j*2,none⟩ (.int .i64 v.k)).setCell ⟨B+3,j*2+1,none⟩ (.int .i64 v.n)):=by
 have hp:=h.pos;have k:Kp (fun t=>t=K+1) T w ((w.setCell ⟨B+3,j*2,none⟩ (.int .i64 v.k)).setCell ⟨B+3,j*2+1,none⟩ (.int .i64 v.n)):=((Kp.refl (fun t=>t=K+1) T w).set (b:=B+3) (fun _=>h.t3) _ _).set (b:=B+3) (fun _=>h.t3) _ _
 exact⟨⟨k.held h.m0 (by rw[h.tB];omega),k.held h.s0 (by rw[h.t1];omega),xkM h.tm j v,k.held h.sb (by rw[h.t4];omega),h.tB,h.t1,h.t3,h.t4,h.stack.keep fun g hg=>k.blk g (h.stack.lt g hg).2 (by rw[h.stag g hg];omega),h.stag,h.few,h.args.fx xa1 (.refl _ _) k (by omega),h.code.fx xa2 (.refl _ _) k (by omega),hp⟩,k⟩
theorem xfj (h:RF T K w B f av kv sv)(hn:0<f.stack.length):Calls Try.prog 86 #[.pointer (some ⟨B+4,0,none⟩)] w fun e w'=>e=.returned (VV f.top)/\(∃ sv',RF T K w' B f.pop av kv sv')/\Kp (fun t=>t=K\/t=K+2) T w w':=by
 have hlt:=xal h.sb;have hfew:=h.few;have hb1:=xbP w (.cells #[.int .i64 0,.int .i64 0] 27) (.cells #[.int .i64 f.top.k,.int .i64 f.top.n] 27);have hb0:=xak w (.cells #[.int .i64 0,.int .i64 0] 27);have h1:=h.later hb0;obtain⟨a,cap,rfl,hc1,hc2⟩:=h.stack.form;obtain⟨m,hm⟩:∃ m,f.stack.length=m+1:=⟨f.stack.length-1,by omega⟩
 have HT:Hid (f.top=f.stack[m]'(by omega)):=by
  show _=_
  unfold Fr.top xaQ xaM;rw[if_neg (by omega)]
  simp[hm]
 have hx:f.stack[m]?=some f.top:=by rw[HT.out];simp
 have hv:=h1.stack.vals (by omega)
 obtain⟨a',cap',e',-,-,-,hrow⟩:=hv
 cases e'
 obtain⟨b,o,rfl,hbo,y0,y1⟩:=hrow m f.top hx;simp only[Nat.add_zero] at y0;have c0:=h1.st;have HC:=hid (fun (w':World) k hb=>h.cut (n:=m) (w':=w') (by omega) k hb)
 have HK:=hid h.t4;have HP:Hid (f.pop={ f with stack:=f.stack.take m }):=by show _=_;unfold Fr.pop;rw[List.dropLast_eq_take,hm];rfl
 have HB1:=hid hb1;have hsf:=(h.later hb1).sf;have hst:=(h.later hb1).st;have HSB0:=hid (h.later hb1).sb;rw[hm] at c0 hst;have hwm:IntKind.i64.wrap (((m+1:Nat):Int)-1)=(m:Int):=by rw[xat (by omega) (by omega)];omega
 unfold maxLen at hc2;clear hrow h h1 hfew hx;have s0:=xaa (w.alloc (.cells #[.int .i64 0,.int .i64 0] 27)) #[.int .i64 f.top.k,.int .i64 f.top.n] 27 (w.heap.size+1) (by simp) 0
 have s1:=xaa (w.alloc (.cells #[.int .i64 0,.int .i64 0] 27)) #[.int .i64 f.top.k,.int .i64 f.top.n] 27 (w.heap.size+1) (by simp) 1
 have r0:=qzA (xak (w.alloc (.cells #[.int .i64 0,.int .i64 0] 27)) (.cells #[.int .i64 f.top.k,.int .i64 f.top.n] 27)) (show (w.alloc (.cells #[.int .i64 0,.int .i64 0] 27)).cell? ⟨w.heap.size,0,none⟩=some (.int .i64 0) from xaa _ _ _ _ rfl 0)
 have r1:=qzA (xak (w.alloc (.cells #[.int .i64 0,.int .i64 0] 27)) (.cells #[.int .i64 f.top.k,.int .i64 f.top.n] 27)) (show (w.alloc (.cells #[.int .i64 0,.int .i64 0] 27)).cell? ⟨w.heap.size,1,none⟩=some (.int .i64 0) from xaa _ _ _ _ rfl 1)
 have rf:∀ o,((w.alloc (.cells #[.int .i64 0,.int .i64 0] 27)).alloc (.cells #[.int .i64 f.top.k,.int .i64 f.top.n] 27)).frozen? ⟨w.heap.size,o,none⟩=false:=fun o=>((xak _ _).frozen (p:=⟨w.heap.size,o,none⟩) (by simp)).trans (xap (qzJ w (.cells #[.int .i64 0,.int .i64 0] 27)) o)
 go_enter Try.func86,Try.ntmps86
 go_upto_region 2 with (fail)
 generalize ((w.alloc (.cells #[.int .i64 0,.int .i64 0] 27)).alloc (.cells #[.int .i64 f.top.k,.int .i64 f.top.n] 27))=W at *;have n1:¬ B+4=w.heap.size:=by omega
 have n2:¬ w.heap.size=B+4:=by omega
 have n3:¬ B+4=w.heap.size+1:=by omega
 have n4:¬ w.heap.size+1=B+4:=by omega
 simp at s0 s1
 have HSB:Hid (W.heap[B+4]?=some (.cells #[.slice (some ⟨b,o,none⟩) (m+1) cap] 28 (0,0))):=by show _=_;rw[← hm];exact HSB0.out
 go_wp2
 have hk:Kp (fun t=>t=K) T w (((W.setCell ⟨B+4,0,none⟩ (.slice (some ⟨b,o,none⟩) m cap)).setCell ⟨w.heap.size,0,none⟩ (.int .i64 f.top.k)).setCell ⟨w.heap.size,1,none⟩ (.int .i64 f.top.n)):=
  (((Kp.of_below HB1.out).set (fun _=>HK.out) _ _).set (fun h=>absurd h (Nat.lt_irrefl _)) _ _).set (fun h=>absurd h (Nat.lt_irrefl _)) _ _
 have hf:=HC.out _ hk (by rw[xac (by omega),xac (by omega)];exact xmF HSB.out _)
 refine qzK (v:=VV f.top) ?_ rfl ⟨rfl,⟨_,by rw[HP.out];exact hf⟩,hk.mono fun t h=>Or.inl h⟩
 simp[results,Try.results86,go_sem,r0,r1,n1,n2]
end
theorem xi4 {w:World}{a:Option Addr}{cap:Nat}{P:Nat->Prop}{hs:List QO}(h:xaD P w (.slice a hs.length cap) hs):∃ cs,Cells xnN 2 P w cs hs/\∀ j u,cs[j]?=some u->∃ b,a=some b/\w.cell? (b.add j)=some u:=by
 obtain⟨a',cap',e,-,-,-,hrow⟩:=h
 cases e
 exact hrow.cells xaE
theorem xhb {h:List QO}{v:QV}{j:Nat}{o:QO}(hk:v.k=4)(hn:v.n=(j:Int))(ho:h[j]?=some o)(n:Nat)(x:QV):xaX h v n x=h.set j ⟨o.cls,o.slots.set n x⟩:=by
 unfold xaX xd2;rw[if_pos ⟨hk,by omega⟩,hn]
 simp[ho,xaW,show ¬ (n:Int)<0 by omega]
theorem xju {h:List QO}{v:QV}{j:Nat}{o:QO}(hk:v.k=4)(hn:v.n=(j:Int))(ho:h[j]?=some o)(n:Nat)(hl:o.slots.length<=n)(x:QV):xaX h v n x=h:=by
 rw[xhb hk hn ho,List.set_eq_of_length_le hl];have:=xae ho;rw[List.getElem?_eq_getElem this] at ho
 cases ho
 exact List.set_getElem_self _
theorem xiV {h:List QO}{v:QV}(n:Int)(x:QV)(hv:xd2 h v=none):xaX h v n x=h:=by unfold xaX;rw[hv]
section
variable {p:Rp} {T T':Nat->Nat} {w w':World} {mb:Nat} {m m':Mc RSt} {deep err deep' err':Int} {hv sv ov:Value}
theorem xnX {a:Option Addr}{cap g cap' g2 cap2 j n B1 B2:Nat}{o:QO}{x:QV}{w1 w2:World}{cs:List Value}(h:RMac p T w mb m deep err (.slice a m.heap.length cap) sv ov)(hcs:Cells xnN 2 (Fx T w) w cs m.heap)
  (hb1:Below w.heap.size w w1) (hown:w1.ownsRow B1 82 2 (.slice (some ⟨g,0,none⟩) m.heap.length cap') m.heap.length cs) (hB1:w.heap.size<=B1) (hb2:Below w1.heap.size w1 w2) (hown2:w2.ownsRow B2 27 2 (.slice (some ⟨g2,0,none⟩) o.slots.length cap2) o.slots.length (xam o.slots)) (hB2:w1.heap.size<=B2)
  (ho:m.heap[j]?=some o) (hn:n<o.slots.length) (hs:o.slots.length*16<=140737488351232) (hl:m.heap.length<=1000) :
  RMac p (xaF T w 0) ((((w2.setCell ⟨g2,n*2,none⟩ (.int .i64 x.k)).setCell ⟨g2,n*2+1,none⟩ (.int .i64 x.n)).setCell ⟨g,j*2+1,none⟩ (.slice (some ⟨g2,0,none⟩) o.slots.length cap2)).setCell ⟨mb,1,none⟩ (.slice (some ⟨g,0,none⟩) m.heap.length cap')) mb { m with heap:=m.heap.set j ⟨o.cls,o.slots.set n x⟩ } deep err (.slice (some ⟨g,0,none⟩) m.heap.length cap') sv ov/\
   Kp (fun t=>t=1) T w ((((w2.setCell ⟨g2,n*2,none⟩ (.int .i64 x.k)).setCell ⟨g2,n*2+1,none⟩ (.int .i64 x.n)).setCell ⟨g,j*2+1,none⟩ (.slice (some ⟨g2,0,none⟩) o.slots.length cap2)).setCell ⟨mb,1,none⟩ (.slice (some ⟨g,0,none⟩) m.heap.length cap')):=by
 have hj:=xae ho;have hlm:=xal h.box;obtain⟨hg1,hg2'⟩:=hown.lt g rfl;obtain⟨hg3,hg4⟩:=hown2.lt g2 rfl;have hz:=hb1.size;have hz2:=hb2.size;have hbw:=xaf hb1 hb2
 have k:Kp (fun t=>t=1) T w ((((w2.setCell ⟨g2,n*2,none⟩ (.int .i64 x.k)).setCell ⟨g2,n*2+1,none⟩ (.int .i64 x.n)).setCell ⟨g,j*2+1,none⟩ (.slice (some ⟨g2,0,none⟩) o.slots.length cap2)).setCell ⟨mb,1,none⟩ (.slice (some ⟨g,0,none⟩) m.heap.length cap')):=
  ((((Kp.of_below hbw).set (fun h=>by omega) _ _).set (fun h=>by omega) _ _).set (fun h=>by omega) _ _).set (fun _=>h.tag) _ _
 have hex:=xaq T w 0;refine⟨?_,k⟩
 have hgrow:w2.ownsRow B1 82 2 (.slice (some ⟨g,0,none⟩) m.heap.length cap') m.heap.length cs:=by
  obtain⟨h0,h1 | ⟨g',c,cur,e,h1,h2,h3⟩⟩:=hown
  ·cases h1.1
  ·exact⟨h0,Or.inr ⟨g',c,cur,e,h1,by rw[hb2.block _ (xal h2)];exact h2,h3⟩⟩
 have e1:=(hown2.stored (n*2) (.int .i64 x.k)).1;have e2:=(e1.stored (n*2+1) (.int .i64 x.n)).1;rw[xfk] at e2;have e3:=ownsRow_setCell_other (ownsRow_setCell_other e2 (a:=⟨g,j*2+1,none⟩) (by simp[Value.ownBlock];omega) (.slice (some ⟨g2,0,none⟩) o.slots.length cap2)) (a:=⟨mb,1,none⟩) (by simp[Value.ownBlock];omega) (.slice (some ⟨g,0,none⟩) m.heap.length cap')
 have f1:=ownsRow_setCell_other (ownsRow_setCell_other hgrow (a:=⟨g2,n*2,none⟩) (by simp[Value.ownBlock];omega) (.int .i64 x.k)) (a:=⟨g2,n*2+1,none⟩) (by simp[Value.ownBlock];omega) (.int .i64 x.n)
 have f2:=(f1.stored (j*2+1) (.slice (some ⟨g2,0,none⟩) o.slots.length cap2)).1;have f3:=ownsRow_setCell_other f2 (a:=⟨mb,1,none⟩) (by simp[Value.ownBlock];omega) (.slice (some ⟨g,0,none⟩) m.heap.length cap')
 have hbox:w2.heap[mb]?=some (RB p m deep err (.slice a m.heap.length cap) sv ov):=xad h.box hbw;generalize hU:((((w2.setCell ⟨g2,n*2,none⟩ (.int .i64 x.k)).setCell ⟨g2,n*2+1,none⟩ (.int .i64 x.n)).setCell ⟨g,j*2+1,none⟩ (.slice (some ⟨g2,0,none⟩) o.slots.length cap2)).setCell ⟨mb,1,none⟩ (.slice (some ⟨g,0,none⟩) m.heap.length cap'))=U at *;have hUz:w2.heap.size<=U.heap.size:=by rw[← hU];simp
 have hsz:w.heap.size<=U.heap.size:=by omega
 have hall:∀ b,w.heap.size<=b->b<U.heap.size->Fx (xaF T w 0) U b:=fun b h1 h2=>⟨h2,xaJ h1⟩
 have hv2:xaO (Fx (xaF T w 0) U) U (.slice (some ⟨g2,0,none⟩) o.slots.length cap2) (o.slots.set n x):=by
  have hc:Cells xpo 2 (Fx (xaF T w 0) U) U (xam (o.slots.set n x)) (o.slots.set n x):=⟨xbA _,fun i y hy=>by
   obtain⟨d1,d2⟩:=xbZ hy
   exact⟨by simpa using d1,d2⟩⟩
  exact xf3 xa1 e3 hc (by simp) (fun b h1 h2=>hall b (by omega) h2) hs
 have hc0:Cells xnN 2 (Fx (xaF T w 0) U) U cs m.heap:=hcs.keep xaE (Keeps.of_block fun b hb hl=>k.blk b hl (by rw[hb.2];omega)) fun b hb=>⟨by omega,by rw[hex b hb.1];exact hb.2⟩
 have hcl:=hc0.1
 have hc1:Cells xnN 2 (Fx (xaF T w 0) U) U (cs.set (j*2+1) (.slice (some ⟨g2,0,none⟩) o.slots.length cap2)) (m.heap.set j ⟨o.cls,o.slots.set n x⟩):=by
  refine hc0.setAt xaE hj (by simp) (fun i hi=>?_) ?_
  ·rw[List.getElem?_set_ne (by omega)]
  ·obtain⟨d1,-⟩:=hc0.2 j o ho
   exact⟨by show (cs.set _ _)[j*2+0]?=_;rw[List.getElem?_set_ne (by omega)];exact d1,_,by show (cs.set _ _)[j*2+1]?=_;rw[List.getElem?_set_self (by omega)],hv2⟩
 have hb':U.heap[mb]?=some (RB p { m with heap:=m.heap.set j ⟨o.cls,o.slots.set n x⟩ } deep err (.slice (some ⟨g,0,none⟩) m.heap.length cap') sv ov):=by
  rw[← hU];refine xnH (hv:=.slice a m.heap.length cap) ?_ _ _;rw[xac (by omega),xac (by omega),xac (by omega)]
  exact hbox
 have hs1:=h.sites.keep (w':=U) fun b hg=>k.blk b (h.sites.lt b hg).2 (by rw[h.stag b hg];omega)
 have ho1:=h.of.keep (w':=U) fun b hg=>k.blk b (h.of.lt b hg).2 (by rw[h.otag b hg];omega)
 exact⟨hb',by rw[hex _ hlm];exact h.tag,h.cls.fx xaA hex k (by omega),xf3 xaE f3 hc1 (by simp) (fun b h1 h2=>hall b (by omega) h2) (by omega),hs1,fun b hg=>by rw[hex _ (h.sites.lt b hg).2];exact h.stag b hg,ho1,fun b hg=>by rw[hex _ (h.of.lt b hg).2];exact h.otag b hg⟩
def xq6 (p:Rp)(T:Nat->Nat)(w:World)(mb:Nat)(m:Mc RSt)(deep err:Int)(sv ov:Value)(e:Ending)(w':World):Prop:=
 e=.returned (.tuple #[])/\(∃ T' hv',Ext T T' w/\RMac p T' w' mb m deep err hv' sv ov)/\Kp (fun t=>t=1) T w w'
theorem xoW (h:RMac p T w mb m deep err hv sv ov)(v:QV)(n:Nat)(x:QV)(hw:xax m.heap.length v=0)(hl:m.heap.length<=1000):Calls Try.prog 88 #[.pointer (some ⟨mb,0,none⟩),VV v,.int .i64 (n:Int),VV x] w fun e w'=>xq6 p T w mb { m with heap:=xaX m.heap v n x } deep err sv ov e w':=by
 have hlm:=xal h.box;have hb1:=xbP w (.cells #[.int .i64 v.k,.int .i64 v.n] 27) (.cells #[.int .i64 x.k,.int .i64 x.n] 27);obtain⟨a,cap,rfl,hl1,hcap,-,-⟩:=id h.heap;unfold maxLen at hcap;obtain⟨cs,hcs,hsrc⟩:=xi4 h.heap;have a0:=qzA (xak _ (.cells #[.int .i64 x.k,.int .i64 x.n] 27)) (show (w.alloc (.cells #[.int .i64 v.k,.int .i64 v.n] 27)).cell? ⟨w.heap.size,0,none⟩=some (.int .i64 v.k) from xaa _ _ _ _ rfl 0)
 have a1:=qzA (xak _ (.cells #[.int .i64 x.k,.int .i64 x.n] 27)) (show (w.alloc (.cells #[.int .i64 v.k,.int .i64 v.n] 27)).cell? ⟨w.heap.size,1,none⟩=some (.int .i64 v.n) from xaa _ _ _ _ rfl 1)
 have x0:=xaa (w.alloc (.cells #[.int .i64 v.k,.int .i64 v.n] 27)) #[.int .i64 x.k,.int .i64 x.n] 27 (w.heap.size+1) (by simp) 0
 have x1:=xaa (w.alloc (.cells #[.int .i64 v.k,.int .i64 v.n] 27)) #[.int .i64 x.k,.int .i64 x.n] 27 (w.heap.size+1) (by simp) 1
 have h1:=h.later hb1;have HH:=hid h;have hz1:w.heap.size+2<=((w.alloc (.cells #[.int .i64 v.k,.int .i64 v.n] 27)).alloc (.cells #[.int .i64 x.k,.int .i64 x.n] 27)).heap.size:=by simp
 go_enter Try.func88,Try.ntmps88
 go_upto_region 1 with (fail)
 generalize ((w.alloc (.cells #[.int .i64 v.k,.int .i64 v.n] 27)).alloc (.cells #[.int .i64 x.k,.int .i64 x.n] 27))=W at *
 simp at x0 x1
 have c1:=qzA (xak W (.cells #[] 82)) h1.c1;have hlen:=hcs.1
 go_upto_region 2 with (at_builtin;refine xbl rfl (.tmp 10) (.tmp 15) 23 82 _ 2 32 rfl Try.underlying23 xr7 rfl (by omega) (by omega) W.heap.size rfl (qzJ _ _) a m.heap.length cap rfl cs hlen (fun j u hj=>by obtain⟨b,e,h⟩:=hsrc j u hj;exact⟨b,e,qzA (xaf hb1 (xak _ _)) h⟩) (by omega) ?_;intro g cap' w1 hown hg hgl hbA)
 have hbB:Below W.heap.size W w1:=xea (qzL _ _) hbA;have hbw:=xaf hb1 hbB;replace a0:=qzA hbB a0;replace a1:=qzA hbB a1;replace x0:=qzA hbB x0;replace x1:=qzA hbB x1;replace h1:=h1.later hbB
 have hgW:W.heap.size<=g:=by
  rcases hg with h | h
  ·omega
  ·have hh:=h
   simp at hh;omega
 have hz2:=hbB.size;clear hbA hg c1 hb1 hbB
 have hend:xaX m.heap v n x=m.heap->(∃ T' hv',Ext T T' w/\RMac p T' w1 mb { m with heap:=xaX m.heap v n x } deep err hv' sv ov)/\Kp (fun t=>t=1) T w w1:=fun e=>by
  rw[e];exact⟨⟨T,_,.refl _ _,h1⟩,Kp.of_below hbw⟩
 have HE:=hid hend;clear hend
 by_cases hk:v.k=4
 ·obtain⟨j,hj,hjl⟩:∃ j:Nat,v.n=(j:Int)/\j<m.heap.length:=by
   unfold xax xcu at hw;rw[hk] at hw;refine⟨v.n.toNat,?_,?_⟩<;>(simp at hw;omega)
  have ho:m.heap[j]?=some m.heap[j]:=by simp[hjl]
  have HO:=hid ho;generalize m.heap[j]=o at *;obtain⟨d0,sl,d1,hsl⟩:=hcs.2 j o ho;obtain⟨asl,csl,rfl,hl2,hc2,hby2,hrs⟩:=id hsl;have u1:w1.cell? ⟨g,j*2+1,none⟩=some (.slice asl o.slots.length csl):=xeM hown d1;have uf:=xfC hown;have hj1:(j:Int)<(m.heap.length:Int):=by omega
  have hj0:(0:Int)<=(j:Int):=by omega
  have hkk:(v.k == 4)=true:=by simpa using hk
  rw[hj] at a1;rw[hk] at a0;unfold maxLen at hc2;have HKN:=hid (And.intro hk hj);clear hk hj hkk d0 d1 ho hw
  by_cases hn:n<o.slots.length
  ·have hn1:(n:Int)<(o.slots.length:Int):=by omega
   have hn0:(0:Int)<=(n:Int):=by omega
   have HS:Hid (xaX m.heap v n x=m.heap.set j ⟨o.cls,o.slots.set n x⟩):=xhb HKN.out.1 HKN.out.2 HO.out n x;obtain⟨vs,hvs,hvsrc⟩:=hrs.cells xa1;have hvc:=xcy (E:=()) hvs;subst hvc;have hvl:=hvs.1;have HV:=hid hvsrc;clear hvsrc hvs hrs HE;have HOW:=hid hown;clear hown;have u1a:=qzA (xak w1 (.cells #[] 27)) u1;have a1a:=qzA (xak w1 (.cells #[] 27)) a1
   go_upto_region 4 with (at_builtin;refine xbl rfl (.tmp 38) (.tmp 44) 28 27 _ 2 16 rfl Try.underlying28 xcg rfl (by omega) (by omega) w1.heap.size rfl (qzJ _ _) asl o.slots.length csl rfl (xam o.slots) hvl (fun j u hj=>by obtain⟨b,e,h⟩:=HV.out j u hj;exact⟨b,e,qzA (xaf hbw (xak _ _)) h⟩) hby2 ?_;intro g2 cap2 w2 hown2 hg2 hgl2 hbA)
   have hbB:Below w1.heap.size w1 w2:=xea (qzL _ _) hbA
   have hgW2:w1.heap.size<=g2:=by
    rcases hg2 with h | h
    ·omega
    ·have hh:=h
     simp at hh;omega
   obtain⟨f1,f2⟩:=xnX (x:=x) HH.out hcs hbw HOW.out (by omega) hbB hown2 (qzC _) HO.out hn hby2 hl
   have F1:=hid f1;have F2:=hid f2;clear f1 f2;replace a1:=qzA hbB a1;replace x0:=qzA hbB x0;replace x1:=qzA hbB x1;obtain⟨z0,z1⟩:=xbZ (show o.slots[n]?=some o.slots[n] by simp[hn])
   have y0:=xeM hown2 z0;have y1:=xeM hown2 z1;have yf:=xfC hown2;have u1':=qzA hbB u1;have uf':∀ o,w2.frozen? ⟨g,o,none⟩=false:=fun o=>(hbB.frozen (p:=⟨g,o,none⟩) hgl).trans (uf o)
   have m1:=(h1.later hbB).c1;have mf:=xap (h1.later hbB).box;have hmw:mb<w1.heap.size:=xal h1.box;have q1:¬ g2=g:=by omega
   have q2:¬ g=g2:=by omega
   have q3:¬ g2=mb:=by omega
   have q4:¬ mb=g2:=by omega
   have q5:¬ g=mb:=by omega
   have q6:¬ mb=g:=by omega
   have q7:¬ g2=w.heap.size:=by omega
   have q8:¬ w.heap.size=g2:=by omega
   have q9:¬ g2=w.heap.size+1:=by omega
   have q10:¬ w.heap.size+1=g2:=by omega
   have q11:¬ g=w.heap.size:=by omega
   have q12:¬ w.heap.size=g:=by omega
   clear hbA hg2 hown2 u1 uf z0 z1 h1 u1a a1a;go_wp2;rw[HS.out]
   exact bodyPost_end (v:=.tuple #[]) (by simp[results,Try.results88,go_sem]) rfl ⟨rfl,⟨_,_,xaq T w 0,F1.out⟩,F2.out⟩
  ·have hn1:¬ (n:Int)<(o.slots.length:Int):=by omega
   have hn2:(o.slots.length:Int)<=(n:Int):=by omega
   have hn3:o.slots.length<=n:=by omega
   have HS:=hid (HE.out (xju HKN.out.1 HKN.out.2 HO.out n (by omega) x))
   clear hn HE;go_wp2
   exact bodyPost_end (v:=.tuple #[]) (by simp[results,Try.results88,go_sem]) rfl ⟨rfl,HS.out.1,HS.out.2⟩
 ·have hkk:(v.k == 4)=false:=by simpa using hk
  have HS:=hid (HE.out (xiV n x (by unfold xd2;rw[if_neg (by omega)])))
  clear hk HE hw;go_wp2
  exact bodyPost_end (v:=.tuple #[]) (by simp[results,Try.results88,go_sem]) rfl ⟨rfl,HS.out.1,HS.out.2⟩
end
def Few (m:Mc RSt):Prop:=(m.st.length:Int)<=m.sz_
def xpk (m:Mc RSt):Prop:=(m.st.length:Int)<=m.sz_+1
def xpl {α:Type}(r:Mc RSt × α × Int):Prop:=(r.2.2=0->Few r.1)/\xpk r.1
def xh6 (ent:Ent RSt):Prop:=∀ m c n s a,xpk m->xpl (ent m c n s a)
theorem Few.r {α:Type}{m:Mc RSt}(h:Few m)(f:α)(e:Int):xpl (m,f,e):=⟨fun _=>h,by unfold xpk;unfold Few at h;show (m.st.length:Int)<=m.sz_+1;omega⟩
theorem xkk {m:Mc RSt}(h:Few m)(f:Fr)(a b:Int):xpl (xaV m f a b):=by
 unfold xaV
 by_cases hb:b<=a
 ·simp only[hb,if_true];split<;>exact Few.r (m:={ m with tz:=m.tz+1 }) h _ _
 ·simp only[hb,if_false];split<;>exact Few.r h _ _
theorem xn3 {X:QW}{fuel:Int}{ent:Ent RSt}(he:xh6 ent){m:Mc RSt}(h:Few m)(f:Fr)(a:Int)(x:QI):xpl (xbD ent (xcX X fuel) m f a x):=by
 unfold xbD;simp only[]
 have hr:=he { m with st:=((xcX X fuel).look m.st (f.site a x) (xas m.heap (xaQ (f.stack.take (xbp f.stack x.a)) 0)) x.name).1 } ((xcX X fuel).look m.st (f.site a x) (xas m.heap (xaQ (f.stack.take (xbp f.stack x.a)) 0)) x.name).2.1 ((xcX X fuel).look m.st (f.site a x) (xas m.heap (xaQ (f.stack.take (xbp f.stack x.a)) 0)) x.name).2.2 (xaQ (f.stack.take (xbp f.stack x.a)) 0) (f.stack.drop (xbp f.stack x.a)) (by
  unfold xpk xcX;unfold Few at h;simp only[List.length_append,List.length_cons,List.length_nil];omega)
 split
 ·rename_i hne;exact⟨fun h0=>absurd h0 hne,hr.2⟩
 ·rename_i hne;exact⟨fun _=>hr.1 (by simpa using hne),hr.2⟩
theorem xkE {X:QW}{fuel:Int}{ent:Ent RSt}(he:xh6 ent)(d:Nat){m:Mc RSt}(h:Few m){f:Fr}(hf:f.fast=false)(a:Int)(x:QI):xpl (xaj ent (xcX X fuel) d m f a x):=by
 unfold xaj
 split
 ·exact h.r _ _
 ·split
  ·exact h.r _ _
  ·split
   ·exact h.r _ _
   ·split
    ·exact h.r _ _
    ·split
     ·exact Few.r (m:={ m with heap:=_ }) h _ _
     ·split
      ·unfold xbV
       split
       ·exact h.r _ _
       ·exact Few.r (m:={ m with heap:=_ }) h _ _
      ·split
       ·exact xn3 he h f a x
       ·split
        ·exact xkk h f a x.a
        ·split
         ·unfold xbz
          split
          ·exact h.r _ _
          ·split
           ·exact xkk h _ a x.a
           ·exact h.r _ _
         ·unfold xbQ;rw[if_pos hf]
          exact h.r _ _
theorem xnC {X:QW}{fuel:Int}{ent:Ent RSt}(he:xh6 ent)(d:Nat):∀ (g:Nat) {m:Mc RSt} (h:Few m) {f:Fr} (hf:f.fast=false),xpl (xb7 ent (xcX X fuel) d g m f)
 | 0,m,h,f,hf=>h.r _ _
 | g+1,m,h,f,hf=>by
  unfold xb7;generalize (if f.pc<0 then none else f.code[f.pc.toNat]?)=q
  cases q with
  | none=>exact h.r _ _
  | some x=>
   simp only[]
   split
   ·exact h.r _ _
   ·have hs:=xkE (X:=X) (fuel:=fuel) he d h (f:={ f with pc:=f.pc+1 }) hf f.pc x
    split
    ·rename_i hne;exact⟨fun h0=>absurd h0 hne,hs.2⟩
    ·rename_i hne
     exact xnC he d g (hs.1 (by simpa using hne)) (xpS ent (xcX X fuel) d m { f with pc:=f.pc+1 } f.pc x hf)
theorem xih {X:QW}{fuel:Int}(d:Nat){body:Mc RSt->Fr->Mc RSt × QV × Int}(hb:∀ {m f},Few m->f.fast=false->xpl (body m f)):xh6 (xbc (xcX X fuel) d body):=by
 intro m c n s a h;have h1:∀ (v:QV) (e:Int),e≠0->xpl (m,v,e):=fun v e he=>⟨fun h0=>absurd h0 he,h⟩
 unfold xbc
 cases hm:xaI (xcX X fuel).cz c n with
 | none=>exact h1 _ _ (by omega)
 | some mt=>
  simp only[]
  split
  ·exact h1 _ _ (by omega)
  ·split
   ·split
    ·exact h1 _ _ (by omega)
    ·have:Few { m with sz_:=m.sz_+1 }:=h
     exact this.r _ _
   ·split
    ·rename_i hne;exact h1 _ _ hne
    ·rename_i hne;unfold xau at hne ⊢
     split
     ·rename_i hc;rw[if_pos hc] at hne;simp at hne
     ·rename_i hc;rw[if_neg hc] at hne
      split
      ·rename_i hc;rw[if_pos hc] at hne;simp at hne
      ·exact hb (m:={ m with sz_:=m.sz_+1 }) h rfl
theorem xnb (X:QW)(fuel:Int):∀ d:Nat,xh6 (xa4 (xcX X fuel) d)
 | 0=>xih 0 fun h _=>h.r _ _
 | d+1=>xih (d+1) fun {m f} h hf=>xnC (xnb X fuel d) d (xf4 f) h hf
abbrev Rp.E (p:Rp):Env RSt:=xcX p.X p.fuel
def xcT (p:Rp)(T:Nat->Nat)(w:World)(mb:Nat)(deep:Int)(K:Nat)(r:Mc RSt × QV × Int)(e:Ending)(w':World):Prop:=
 e=.returned (VV r.2.1)/\(∃ T' hv sv ov,Ext T T' w/\RMac p T' w' mb r.1 deep r.2.2 hv sv ov)/\Kp (All K) T w w'
def xrD (p:Rp)(d:Nat):Prop:=
 ∀ (K:Nat) (T:Nat->Nat) (w:World) (mb:Nat) (m:Mc RSt) (hv sv ov:Value) (c n:Int) (self:QV) (args:List QV) (av:Value) (mt:QM),5<=K->RMac p T w mb m (20-(d:Int)) 0 hv sv ov->MIn p.E m->xpk m->xax m.heap.length self=0->VsOk m.heap.length args->xaO (Fx T w) w av args->xaI p.X.cz c n=some mt->
  Calls Try.prog 44 #[.pointer (some ⟨mb,0,none⟩),.int .i64 c,.int .i64 n,VV self,av] w fun e w'=>xcT p T w mb (20-(d:Int)) K (xa4 p.E d m c n self args) e w'
structure Rx (p:Rp):Prop where
 right:xaH p.X=0
 fuel:0<=p.fuel/\p.fuel<=400
theorem Rx.ok {p:Rp}(h:Rx p):EOk p.E:=xnW h.right _ _
structure BdR (p:Rp)(d:Nat)(T:Nat->Nat)(w:World)(mb K:Nat)(R:Mc RSt × QV × Int)(av kv:Value)(gk:Nat)(at':Value)(T1:Nat->Nat)(m:Mc RSt)(f:Fr)(err:Int)(wr:World):Prop where
 ext:Ext T T1 w
 kp:Kp (All K) T w wr
 mac:∃ hv sv ov,RMac p T1 wr mb m (20-(d:Int)) err hv sv ov
 res:wr.heap[w.heap.size+2]?=some (.cells #[.int .i64 0,.int .i64 0] 27 (0,0))
 tres:T1 (w.heap.size+2)=4
 pos:5<=K
 run:err=0->∃ st,RF T1 K wr w.heap.size f av kv st
 min:err=0->MIn p.E m/\Few m/\FOk p.X.cz m.heap.length f/\PlOk f/\muE m f<=gk/\xb7 (xa4 p.E d) p.E d gk m f=R/\at'=.int .i64 f.pc
 bad:err≠0->R=(m,xaU,err)
section
variable {p:Rp} {d:Nat} {T T1 T2:Nat->Nat} {w wr w2:World} {mb K:Nat} {R:Mc RSt × QV × Int} {av kv:Value} {gk:Nat} {at' at2:Value} {m:Mc RSt} {f:Fr}
theorem BdR.next {G' k:Nat}{x:QI}(hX:Rx p)(hR:BdR p d T w mb K R av kv gk at' T1 m f 0 wr)(hg:gk=G'+1)(hx:NxOk f k x)(h17:x.op≠17){r:Mc RSt × Fr × Int}(hr:xaj (xa4 p.E d) p.E d m { f with pc:=f.pc+1 } f.pc x=r)
  (hE:Ext T1 T2 wr) (hK:Kp (All K) T1 wr w2) {hv sv ov:Value} (hM:RMac p T2 w2 mb r.1 (20-(d:Int)) r.2.2 hv sv ov) (hF:r.2.2=0->∃ st,RF T2 K w2 w.heap.size r.2.1 av kv st) (ha:r.2.2=0->at2=.int .i64 r.2.1.pc) :
  BdR p d T w mb K R av kv G' at2 T2 r.1 r.2.1 r.2.2 w2:=by
 obtain⟨hI,hFew,hFo,hPl,hmu,hval,-⟩:=hR.min rfl;have hp:=hR.pos;have hpc:=hx.pc;have hlt:=hx.lt;have hcode:=hFo.code f.code[k] (List.getElem_mem hlt);have hxk:f.code[k]=x:=by have:=hx.here;rw[List.getElem?_eq_getElem hlt] at this;cases this;rfl
 rw[hxk] at hcode;have hst:=xjj hX.ok (xl9 hX.ok d) d hI.heap (f:={ f with pc:=f.pc+1 }) ⟨hFo.self,hFo.args,hFo.temps,hFo.stack,hFo.code,hFo.plain⟩ f.pc hcode.1 hcode.2
 have hle:=xjF (xnc p.E d) d hI.sz_.2 { f with pc:=f.pc+1 } f.pc x
 have htu:=xc9 (xbK p.E d) p.E d m { f with pc:=f.pc+1 } f.pc x
 have hfew:=xkE (X:=p.X) (fuel:=p.fuel) (xnb p.X p.fuel d) d hFew (f:={ f with pc:=f.pc+1 }) hPl.fast f.pc x
 have hV:R=if r.2.2≠0 then (r.1,xaU,r.2.2) else xb7 (xa4 p.E d) p.E d G' r.1 r.2.1:=by
  rw[← hval,hg]
  conv=>lhs;unfold xb7
  rw[hpc,if_neg (by omega)]
  simp only[Int.toNat_natCast,hx.here];rw[if_neg h17,← hpc,hr]
 rw[hr] at hst hle htu hfew;refine⟨hR.ext.trans hR.kp.size hE,hR.kp.trans hR.ext hK,⟨_,_,_,hM⟩,hK.held hR.res (by rw[hR.tres];unfold All;omega),by rw[hE _ (xal hR.res)];exact hR.tres,hp,hF,fun h0=>?_,fun h0=>by rw[hV,if_pos h0]⟩
 have h0':(xaj (xa4 p.E d) p.E d m { f with pc:=f.pc+1 } f.pc x).2.2=0:=by rw[hr];exact h0
 have ht:=xl5 (xp5 p.E d) d hI.tz.2 (f:={ f with pc:=f.pc+1 }) h0'
 have hpl:=xhN hPl hx h17 h0';have hmu2:=xgc (xbK p.E d) (E:=p.E) (d:=d) hI.tz.1 (f:=f) (by omega) (by omega) h0'
 rw[hr] at ht hpl hmu2;refine⟨⟨hst.1.heap,⟨by have:=hI.sz_;omega,hle.1⟩,⟨by have:=hI.tz;omega,ht⟩⟩,hfew.1 h0,hst.2 h0,hpl,by omega,?_,ha h0⟩
 rw[hV,if_neg (by simpa using h0)]
end
theorem xgM {w:World}(T ty e:TypeId)(z:Value)(sz bytes:Nat)(hT:Try.prog.underlying T=some (.slice e))(hI:(Try.prog.info? e).map (fun i=>(i.zero,i.size,i.bytes))=some (some z,sz,bytes))(hzs:z.cells.size=sz)(hsz:0<sz)
  (base n:Nat) (v:Value) (xs:List Value) (hown:ownsAt w base e sz v n xs) (Bb:Nat) (news:List Value) (hl:news.length=2*sz) (hX:w.heap[Bb]?=some (.cells news.toArray e (0,0))) (h1:∀ u∈news,u.oneCell'=true) (h63:n+2<=maxLen) (hby:(n+2)*bytes<=140737488355328) (hbase:base<=w.heap.size) :
  ∃ v' w',(Builtin.append_ #[T,T] ty #[v,.slice (some ⟨Bb,0,none⟩) 2 2]).run Try.prog w=.ok v' w'/\ownsAt w' base e sz v' (n+2) (xs++news)/\(v'.ownBlock=v.ownBlock\/∃ g,v'.ownBlock=some g/\w.heap.size<=g)/\Below base w w'/\(∀ b,b<w.heap.size->some b≠v.ownBlock->w'.heap[b]?=w.heap[b]?):=by
 obtain⟨i0,hi,hz0,hz1,hz2⟩:=xa8 hI;have hnews:∀ j u,news[j]?=some u->w.cell? ((⟨Bb,0,none⟩:Addr).add j)=some u:=fun j u hu=>by rw[Addr.add_lit,Nat.zero_add,qzB hX];simpa using hu
 obtain⟨hxl,⟨rfl,rfl⟩ | ⟨g,o,cap,cur,rfl,h3,h4,h5,h6,h7,h8⟩⟩:=id hown
 ·obtain⟨v',w',hrun,r1,r2,_⟩:=run_append_own (P:=Try.prog) w w.heap.size T ty e i0 z sz bytes hT hi hz0 hz1 hz2 hzs hsz (.slice none 0 0) 0 [] (World.ownsRow_nil w _ e sz) ⟨Bb,0,none⟩ 2 2 news (by omega) hnews h1 h63 hby (qzC _)
  have hxs:xs=[]:=List.eq_nil_of_length_eq_zero (by simpa using hxl)
  subst hxs;refine⟨v',w',hrun,xcK (by simpa using r1) hbase,Or.inr ?_,?_,fun b hb hne=>r2.block b hb hne⟩
  ·obtain⟨-,h | ⟨g,c,cur,e,h3,h4,-⟩⟩:=r1
   ·omega
   ·exact⟨g,by rw[e];rfl,h3⟩
  ·exact (qzL _ _).grown r2 hbase fun k hk=>by cases hk
 ·by_cases hr:n+2<=cap
  ·have hcs:cur.toList.length=cur.size:=by simp
   have hon:o+n*sz+news.length<=cur.size:=by
    have:(n+2)*sz<=cap*sz:=Nat.mul_le_mul_right _ hr;rw[Nat.add_mul] at this
    omega
   have hrun:=run_append_room_cells (P:=Try.prog) w T ty e i0 hT hi g o n cap ⟨Bb,0,none⟩ 2 2 news (by rw[hz1];omega) hnews h1 hr (fun j hj=>by rw[hz1,qzB h4];simp;omega) (fun j hj=>by unfold World.frozen?;simp[h4])
   rw[hz1] at hrun;have hrow:=xcQ news (o+n*sz) w cur h4 hon;refine⟨_,_,hrun,⟨by rw[List.length_append,hxl,hl,Nat.add_mul],Or.inr ⟨g,o,cap,_,rfl,h3,hrow,hr,h6,?_,?_⟩⟩,Or.inl rfl,?_,fun b hb hne=>xa0 (fun e=>hne (by rw[e];rfl)) _ _ _⟩
   ·simp
    omega
   ·rw[← h8]
    apply List.ext_getElem?
    intro i;simp only[List.getElem?_take,List.getElem?_drop,List.getElem?_append,List.length_append,List.length_take,List.length_drop,hcs];have e1:min (o+n*sz) cur.size=o+n*sz:=by omega
    have e2:min (n*sz) (cur.size-o)=n*sz:=by omega
    rw[e1,e2];have e3:(n+2)*sz=n*sz+2*sz:=by rw[Nat.add_mul]
    rw[e3]
    by_cases g1:i<n*sz
    ·simp[g1,show i<n*sz+2*sz by omega,show o+i<o+n*sz by omega,show o+i<o+n*sz+news.length by omega]
    ·by_cases g2:i<n*sz+2*sz
     ·simp[g1,g2,show ¬ (o+i<o+n*sz) by omega,show o+i<o+n*sz+news.length by omega,show o+i-(o+n*sz)=i-n*sz by omega]
     ·simp[g1,g2]
      omega
   ·refine⟨?_,?_,?_,?_,fun k hk=>xa0 (by omega) _ _ _⟩
    ·exact (xbk _ _ _ _).os
    ·exact (xbk _ _ _ _).tape
    ·exact (xbk _ _ _ _).output
    ·rw[xbJ];exact qzC _
  ·obtain⟨v',w',hrun,r1,r2⟩:=run_append_arg_grows (P:=Try.prog) w T ty e i0 z sz bytes hT hi hz0 hz1 hz2 hzs hsz ⟨g,o,none⟩ n cap xs hxl (fun j u hu=>by
    rw[Addr.add_lit,qzB h4];rw[← h8,List.getElem?_take] at hu
    split at hu
    ·rw[List.getElem?_drop] at hu;simpa using hu
    ·cases hu) ⟨Bb,0,none⟩ 2 2 news (by omega) hnews (by omega) h63 hby
   refine⟨v',w',hrun,xcK r1 hbase,Or.inr ?_,?_,fun b hb hne=>r2.block b hb (by simp)⟩
   ·obtain⟨-,h | ⟨g,c,cur,e,h3,h4,-⟩⟩:=r1
    ·omega
    ·exact⟨g,by rw[e];rfl,h3⟩
   ·exact (qzL _ _).grown r2 hbase fun k hk=>by cases hk
theorem xfg {ops:Array Oper}{rest:List Oper}{o:Oper}{a:Act}{w:World}{Q:Exit->Act->World->Prop}(hgd:o.guard=none)(s x:Operand)(T e:TypeId)(z:Value)(sz bytes:Nat)
  (hop:o.op=Op.call { callee:=Callee.builtin Builtin.append,args:=#[s,x],argTypes:=#[T,T] }) (hT:Try.prog.underlying T=some (.slice e)) (hI:(Try.prog.info? e).map (fun i=>(i.zero,i.size,i.bytes))=some (some z,sz,bytes)) (hzs:z.cells.size=sz) (hsz:0<sz)
  (base n:Nat) (v:Value) (xs:List Value) (hs:a.eval s=v) (hown:ownsAt w base e sz v n xs) (Bb:Nat) (hx:a.eval x=.slice (some ⟨Bb,0,none⟩) 2 2) (news:List Value) (hl:news.length=2*sz) (hX:w.heap[Bb]?=some (.cells news.toArray e (0,0))) (h1:∀ u∈news,u.oneCell'=true) (h63:n+2<=maxLen) (hby:(n+2)*bytes<=140737488355328) (hbase:base<=w.heap.size)
  (hK:∀ a' cap' w',ownsAt w' base e sz (.slice a' (n+2) cap') (n+2) (xs++news)->((Value.slice a' (n+2) cap').ownBlock=v.ownBlock\/∃ g,(Value.slice a' (n+2) cap').ownBlock=some g/\w.heap.size<=g)->Below base w w'->(∀ b,b<w.heap.size->some b≠v.ownBlock->w'.heap[b]?=w.heap[b]?)->wpList Try.prog ops Q rest (a.put o.dst (.slice a' (n+2) cap')) w') :
  wpList Try.prog ops Q (o :: rest) a w:=by
 refine wpList_plain hgd fun K hKK=>?_
 obtain⟨v',w',hrun,r1,r2,r3,r4⟩:=xgM T o.type e z sz bytes hT hI hzs hsz base n v xs hown Bb news hl hX h1 h63 hby hbase;obtain⟨a',cap',rfl,-⟩:=r1.form;unfold Oper.wp
 simp[execOp,hop,resolve,invoke,builtin,hs,hx,hrun,Result.andThen]
 exact hKK _ _ (hK a' cap' w' r1 r2 r3 r4)
def xoZ (T:Nat->Nat)(B K:Nat):Nat->Nat:=fun b=>if b<B then T b else if b=B+3 then K+1 else if b=B+4 then K else 4
section
variable {p:Rp} {d:Nat} {T T1 T2:Nat->Nat} {w wr w2:World} {mb K:Nat} {R:Mc RSt × QV × Int} {av kv:Value} {gk:Nat} {at' at2:Value} {m:Mc RSt} {f:Fr}
theorem xlu {hv sv ov:Value}(h:RMac p T w mb m (20-(d:Int)) 0 hv sv ov)(hK:5<=K)(hI:MIn p.E m)(hW:Few m)(hFo:FOk p.X.cz m.heap.length f)(hPl:PlOk f)(hA:xaO (Fx T w) w av f.args)(hC:xaR (Fx T w) w kv f.meth.code)(hst:f.stack=[])(hpc:f.pc=0)(hR:xb7 (xa4 p.E d) p.E d (xf4 f) m f=R){U:World}(hb:Below w.heap.size w U)
  (u0:U.heap[w.heap.size]?=some (.cells #[.string f.meth.name,.int .i64 f.meth.args,.int .i64 f.meth.temps,.int .i64 f.meth.prim,kv] 55 (0,0))) (u1:U.heap[w.heap.size+1]?=some (.cells #[.int .i64 f.self.k,.int .i64 f.self.n] 27 (0,0))) (u2:U.heap[w.heap.size+2]?=some (.cells #[.int .i64 0,.int .i64 0] 27 (0,0)))
  (u3:U.heap[w.heap.size+3]?=some (.cells (xam f.temps).toArray 27 (0,0))) (u4:U.heap[w.heap.size+4]?=some (.cells #[.slice none 0 0] 28 (0,0))):BdR p d T w mb K R av kv (xf4 f) (.int .i64 0) (xoZ T w.heap.size K) m f 0 U:=by
 have hE:Ext T (xoZ T w.heap.size K) w:=fun b hb=>by unfold xoZ;rw[if_pos hb]
 have hk:Kp (fun _=>False) T w U:=Kp.of_below hb
 refine⟨hE,Kp.of_below hb,⟨_,_,_,h.keep hE hk id id id id⟩,u2,?_,hK,fun _=>⟨.slice none 0 0,u0,u1,u3,u4,?_,?_,?_,?_,?_,?_,?_,hA.fx xa1 hE hk id,by rw[hPl.code];exact hC.fx xa2 hE hk id,hK⟩,fun _=>⟨hI,hW,hFo,hPl,xg8 hI.tz.1,hR,by rw[hpc]⟩,fun h=>absurd rfl h⟩
 ·unfold xoZ;rw[if_neg (by omega),if_neg (by omega),if_neg (by omega)]
 ·unfold xoZ;rw[if_neg (by omega),if_neg (by omega),if_neg (by omega)]
 ·unfold xoZ;rw[if_neg (by omega),if_neg (by omega),if_neg (by omega)]
 ·unfold xoZ;rw[if_neg (by omega),if_pos rfl]
 ·unfold xoZ;rw[if_neg (by omega),if_neg (by omega),if_pos rfl]
 ·rw[hst];exact⟨rfl,Or.inl ⟨rfl,rfl⟩⟩
 ·intro g hg;cases hg
 ·rw[hst];simp
theorem xrr (w:World)(o0 o1 o2 o3 o4:Obj):((((((w.alloc o0).alloc o1).alloc o2).alloc o3).alloc o4).heap[w.heap.size]?=some o0/\(((((w.alloc o0).alloc o1).alloc o2).alloc o3).alloc o4).heap[w.heap.size+1]?=some o1/\(((((w.alloc o0).alloc o1).alloc o2).alloc o3).alloc o4).heap[w.heap.size+2]?=some o2)/\(((((w.alloc o0).alloc o1).alloc o2).alloc o3).alloc o4).heap[w.heap.size+3]?=some o3/\(((((w.alloc o0).alloc o1).alloc o2).alloc o3).alloc o4).heap[w.heap.size+4]?=some o4:=by
 have s1:(w.alloc o0).heap.size=w.heap.size+1:=by simp
 have s2:((w.alloc o0).alloc o1).heap.size=w.heap.size+2:=by simp
 have s3:(((w.alloc o0).alloc o1).alloc o2).heap.size=w.heap.size+3:=by simp
 have s4:((((w.alloc o0).alloc o1).alloc o2).alloc o3).heap.size=w.heap.size+4:=by simp
 have h0:=qzJ w o0;have h1:=qzJ (w.alloc o0) o1;have h2:=qzJ ((w.alloc o0).alloc o1) o2;have h3:=qzJ (((w.alloc o0).alloc o1).alloc o2) o3;have h4:=qzJ ((((w.alloc o0).alloc o1).alloc o2).alloc o3) o4;rw[s1] at h1;rw[s2] at h2;rw[s3] at h3;rw[s4] at h4
 exact⟨⟨xad (xad (xad (xad h0 (xak _ _)) (xak _ _)) (xak _ _)) (xak _ _),xad (xad (xad h1 (xak _ _)) (xak _ _)) (xak _ _),xad (xad h2 (xak _ _)) (xak _ _)⟩,xad h3 (xak _ _),h4⟩
structure InB (W:World)(b:Nat)(x:QI):Prop where
 x0:W.cell? ⟨b,0,none⟩=some (.int .i64 x.op)
 x1:W.cell? ⟨b,1,none⟩=some (.int .i64 x.a)
 x4:W.cell? ⟨b,4,none⟩=some (.string x.name)
theorem xnn (w:World)(x:QI):InB (w.alloc (.cells #[.int .i64 x.op,.int .i64 x.a,.int .i64 x.b,.int .i64 x.c,.string x.name] 59)) w.heap.size x:=⟨xaa _ _ _ _ rfl 0,xaa _ _ _ _ rfl 1,xaa _ _ _ _ rfl 4⟩
theorem InB.later {W W':World}{b:Nat}{x:QI}(h:InB W b x)(hb:Below W.heap.size W W'):InB W' b x:=⟨qzA hb h.x0,qzA hb h.x1,qzA hb h.x4⟩
abbrev xj9 (c:Int)(n1 n2 n3:Nat)(f:Fr):Prop:=f.cls=c/\f.args.length=n1/\f.temps.length=n2/\f.code.length=n3
abbrev BdX (p:Rp)(d:Nat)(T:Nat->Nat)(w:World)(mb K:Nat)(R:Mc RSt × QV × Int)(av kv:Value)(c:Int)(n1 n2 n3:Nat)(gk:Nat)(at':Value)(wr:World):Prop:=
 ∃ T1 m f err,BdR p d T w mb K R av kv gk at' T1 m f err wr/\(err=0->xj9 c n1 n2 n3 f)
theorem xd0 {S:Nat->Prop}{U:World}(k:Kp S T1 wr U)(h:∀ t,S t->t=1\/t=2\/t=3\/K<=t):Kp (All K) T1 wr U:=k.mono fun t ht=>h t ht
variable {c:Int} {n1 n2 n3 G' k:Nat} {x:QI} {hv sv ov st st':Value} {U w':World}
theorem xcW (hX:Rx p)(hR:BdR p d T w mb K R av kv gk at' T1 m f 0 wr)(hg:gk=G'+1)(hx:NxOk f k x){v:QV}(hpu:xao m.heap { f with pc:=f.pc+1 } x=some v)(hM:RMac p T1 wr mb m (20-(d:Int)) 0 hv sv ov)(hF:RF T1 K wr w.heap.size f av kv st)(hL:xj9 c n1 n2 n3 f)(hU:Below wr.heap.size wr U)
  (r1:ownsAt w' 0 27 2 st' (f.stack.length+1) (xam f.stack++[.int .i64 v.k,.int .i64 v.n])) (r2:st'.ownBlock=st.ownBlock\/∃ g,st'.ownBlock=some g/\U.heap.size<=g) (r3:Below 0 U w') (r4:∀ b,b<U.heap.size->some b≠st.ownBlock->w'.heap[b]?=U.heap[b]?) :
  BdX p d T w mb K R av kv c n1 n2 n3 G' (.int .i64 ((k:Int)+1)) (w'.setCell ⟨w.heap.size+4,0,none⟩ st'):=by
 have hp:=hF.pos;have hfew:=hx.few;obtain⟨⟨T2,e1,e2⟩,e3⟩:=hF.pushed (vs:=[v]) hU (by simp;omega) (by simpa [xam] using r1) r2 r3 r4
 have ho:=xfb hpu;have hr:xaj (xa4 p.E d) p.E d m { f with pc:=f.pc+1 } f.pc x=(m,({ f with pc:=f.pc+1 }:Fr).push v,0):=by unfold xaj;rw[hpu]
 exact⟨_,_,_,_,hR.next hX hg hx (by omega) hr e1 (xd0 e3 fun t ht=>by omega) (hM.keep e1 e3 (by omega) (by omega) (by omega) (by omega)) (fun _=>⟨_,e2.at _⟩) (fun _=>by show _=Value.int .i64 (f.pc+1);rw[hx.pc]),fun _=>hL⟩
theorem xb8 (hF:RF T1 K wr w.heap.size f av kv st)(hU:Below wr.heap.size wr U)(r4:∀ b,b<U.heap.size->some b≠st.ownBlock->w'.heap[b]?=U.heap[b]?):w'.cell? ⟨w.heap.size+4,0,none⟩=some st/\∀ o,w'.frozen? ⟨w.heap.size+4,o,none⟩=false:=by
 have hlt:=xal hF.sb;have hp:=hF.pos;have hnb:some (w.heap.size+4)≠st.ownBlock:=fun e=>by have:=hF.stag _ e.symm;rw[hF.t4] at this;omega
 have hbx:w'.heap[w.heap.size+4]?=some (.cells #[st] 28 (0,0)):=by rw[r4 _ (qzE hlt hU.size) hnb,hU.block _ hlt];exact hF.sb
 exact⟨by rw[qzB hbx];rfl,xap hbx⟩
theorem xqv (hX:Rx p)(hR:BdR p d T w mb K R av kv gk at' T1 m f 0 wr)(hg:gk=G'+1)(hx:NxOk f k x)(hop:x.op=9\/False)(hM:RMac p T1 wr mb m (20-(d:Int)) 0 hv sv ov)(hL:xj9 c n1 n2 n3 f)(hU:Below wr.heap.size wr U)(hF:RF T1 K w' w.heap.size f.pop av kv st')(hK:Kp (fun t=>t=K\/t=K+2) T1 U w') :
  BdX p d T w mb K R av kv c n1 n2 n3 G' (.int .i64 ((k:Int)+1)) w':=by
 have hp:=hR.pos;have ho:x.op=9:=hop.elim id False.elim
 have hr:xaj (xa4 p.E d) p.E d m { f with pc:=f.pc+1 } f.pc x=(m,({ f with pc:=f.pc+1 }:Fr).pop,0):=by
  have hpu:xao m.heap { f with pc:=f.pc+1 } x=none:=by unfold xao;simp[ho]
  unfold xaj;rw[hpu];simp only[];rw[if_pos ho]
 have k2:Kp (fun t=>t=K\/t=K+2) T1 wr w':=(Kp.of_below hU).trans (.refl _ _) hK
 exact⟨_,_,_,_,hR.next hX hg hx (by omega) hr (.refl _ _) (xd0 k2 fun t ht=>by omega) (hM.keep (.refl _ _) k2 (by omega) (by omega) (by omega) (by omega)) (fun _=>⟨_,hF.at _⟩) (fun _=>by show _=Value.int .i64 (f.pc+1);rw[hx.pc]),fun _=>hL⟩
structure PcS (p:Rp)(T1:Nat->Nat)(K:Nat)(w wr:World)(mb:Nat)(m:Mc RSt)(d:Nat)(f:Fr)(hv sv ov av kv st:Value)(W:World):Prop where
 mac:RMac p T1 W mb m (20-(d:Int)) 0 hv sv ov
 fr:RF T1 K W w.heap.size f av kv st
 bel:Below wr.heap.size wr W
theorem pcS {a b:Addr}{y z:Value}{W W':World}(h1:W.cell? a=some y)(h2:W.cell? b=some z)(h:PcS p T1 K w wr mb m d f hv sv ov av kv st W)(hb:Below W.heap.size W W'):W'.cell? a=some y/\W'.cell? b=some z/\PcS p T1 K w wr mb m d f hv sv ov av kv st W':=⟨qzA hb h1,qzA hb h2,h.mac.later hb,h.fr.later hb,xaf h.bel hb⟩
theorem pcL {a b:Addr}{y z:Value}{W W':World}(h:W.cell? a=some y/\W.cell? b=some z/\PcS p T1 K w wr mb m d f hv sv ov av kv st W)(hb:Below W.heap.size W W'):W'.cell? a=some y/\W'.cell? b=some z/\PcS p T1 K w wr mb m d f hv sv ov av kv st W':=pcS h.1 h.2.1 h.2.2 hb
theorem BdR.set_res (hR:BdR p d T w mb K R av kv gk at' T1 m f 0 wr){T2:Nat->Nat}{W2:World}(hE:Ext T1 T2 wr)(hK:Kp (All K) T1 wr W2)(hM:RMac p T2 W2 mb m (20-(d:Int)) 0 hv sv ov){v:QV}(hV:R=(m,v,0)):xcT p T w mb (20-(d:Int)) K R (.returned (VV v)) ((W2.setCell ⟨w.heap.size+2,0,none⟩ (.int .i64 v.k)).setCell ⟨w.heap.size+2,1,none⟩ (.int .i64 v.n)):=by
 have hp:=hR.pos;have ht:T2 (w.heap.size+2)=4:=by rw[hE _ (xal hR.res)];exact hR.tres
 have k4:Kp (fun t=>t=4) T2 W2 ((W2.setCell ⟨w.heap.size+2,0,none⟩ (.int .i64 v.k)).setCell ⟨w.heap.size+2,1,none⟩ (.int .i64 v.n)):=((Kp.refl (fun t=>t=4) T2 W2).set (b:=w.heap.size+2) (fun _=>ht) _ _).set (b:=w.heap.size+2) (fun _=>ht) _ _
 have k0:Kp (All K) T w W2:=hR.kp.trans hR.ext hK;subst hV;refine⟨rfl,⟨T2,_,_,_,hR.ext.trans hR.kp.size hE,hM.keep (.refl _ _) k4 (by omega) (by omega) (by omega) (by omega)⟩,(k0.set (fun h=>by omega) _ _).set (fun h=>by omega) _ _⟩
theorem xqt (hR:BdR p d T w mb K R av kv gk at' T1 m f 0 wr)(hg:gk=G'+1)(hx:NxOk f k x)(hop:x.op=17):R=(m,f.top,0):=by
 obtain⟨-,-,-,-,-,hval,-⟩:=hR.min rfl;rw[← hval,hg]
 conv=>lhs;unfold xb7
 rw[hx.pc,if_neg (by omega)]
 simp only[Int.toNat_natCast,hx.here];rw[if_pos hop]
theorem xq9 (hR:BdR p d T w mb K R av kv gk at' T1 m f 0 wr){W2:World}(hK:Kp (All K) T1 wr W2):(W2.cell? ⟨w.heap.size+2,0,none⟩=some (.int .i64 0)/\W2.cell? ⟨w.heap.size+2,1,none⟩=some (.int .i64 0))/\∀ o,W2.frozen? ⟨w.heap.size+2,o,none⟩=false:=by
 have hp:=hR.pos;have hb:=hK.held hR.res (by rw[hR.tres];unfold All;omega)
 exact⟨⟨by rw[qzB hb];rfl,by rw[qzB hb];rfl⟩,xap hb⟩
theorem xbX (ent:Ent RSt)(E:Env RSt)(hop:9<=x.op):xaj ent E d m { f with pc:=f.pc+1 } f.pc x=xcG ent E d m { f with pc:=f.pc+1 } f.pc x:=by
 have hpu:xao m.heap { f with pc:=f.pc+1 } x=none:=by
  unfold xao;rw[if_neg (by omega),if_neg (by omega),if_neg (by omega),if_neg (by omega),if_neg (by omega),if_neg (by omega),if_neg (by omega),if_neg (by omega)]
 unfold xaj xcG;rw[hpu]
theorem xcz (hX:Rx p)(hR:BdR p d T w mb K R av kv gk at' T1 m f 0 wr)(hg:gk=G'+1)(hx:NxOk f k x)(h17:x.op≠17){r:Mc RSt × Fr × Int}(hr:xaj (xa4 p.E d) p.E d m { f with pc:=f.pc+1 } f.pc x=r){T2:Nat->Nat}{W2:World}(hE:Ext T1 T2 wr)(hK:Kp (All K) T1 wr W2)(hM:RMac p T2 W2 mb r.1 (20-(d:Int)) r.2.2 hv sv ov)(hF:r.2.2=0->∃ st,RF T2 K W2 w.heap.size r.2.1 av kv st)(hpc:r.2.2=0->r.2.1.pc=(k:Int)+1)(hL:r.2.2=0->xj9 c n1 n2 n3 r.2.1) :
  BdX p d T w mb K R av kv c n1 n2 n3 G' (.int .i64 ((k:Int)+1)) W2:=
 ⟨_,_,_,_,hR.next hX hg hx h17 hr hE hK hM hF (fun h=>by rw[hpc h]),hL⟩
end
theorem vf46 (args:Array Value)(w:World):(callFunc 85 args).run Try.prog w=.ok (.enter 85 args) w:=xdN Try.func85 (by kernel_rfl) (by kernel_rfl) args w
theorem vf48 (args:Array Value)(w:World):(callFunc 87 args).run Try.prog w=.ok (.enter 87 args) w:=xdN Try.func87 (by kernel_rfl) (by kernel_rfl) args w
theorem vf47 (args:Array Value)(w:World):(callFunc 86 args).run Try.prog w=.ok (.enter 86 args) w:=xdN Try.func86 (by kernel_rfl) (by kernel_rfl) args w
theorem vf49 (args:Array Value)(w:World):(callFunc 88 args).run Try.prog w=.ok (.enter 88 args) w:=xdN Try.func88 (by kernel_rfl) (by kernel_rfl) args w
theorem vf17 (args:Array Value)(w:World):(callFunc 21 args).run Try.prog w=.ok (.enter 21 args) w:=xdN Try.func21 (by kernel_rfl) (by kernel_rfl) args w
theorem vf22 (args:Array Value)(w:World):(callFunc 9 args).run Try.prog w=.ok (.enter 9 args) w:=xdN Try.func9 (by kernel_rfl) (by kernel_rfl) args w
theorem vf23 (args:Array Value)(w:World):(callFunc 43 args).run Try.prog w=.ok (.enter 43 args) w:=xdN Try.func43 (by kernel_rfl) (by kernel_rfl) args w
theorem vf24 (args:Array Value)(w:World):(callFunc 44 args).run Try.prog w=.ok (.enter 44 args) w:=xdN Try.func44 (by kernel_rfl) (by kernel_rfl) args w
theorem xsb (k n h:Int)(w:World):Calls Try.prog 23 #[.agg #[.int .i64 k,.int .i64 n],.int .i64 h] w fun e w'=>e=.returned (.int .i64 (xcu k n h))/\Below w.heap.size w w':=by
 go_enter Try.func23,Try.ntmps23;go_wp2
 all_goals
  go_ret
  refine⟨xan ?_,(qzL _ _).alloc (qzC _) _⟩
  go_light
  try simp only[beq_iff_eq,bne_iff_ne,ne_eq,beq_eq_false_iff_ne,bne_eq_false_iff_eq] at *
  unfold xcu
  (repeat' split)<;>omega
theorem xr4 (v:QV)(h:Int)(w:World):Calls Try.prog 23 #[.agg #[.int .i64 v.k,.int .i64 v.n],.int .i64 h] w fun e w'=>e=.returned (.int .i64 (xax h v))/\Below w.heap.size w w':=xsb v.k v.n h w
theorem xsa (s:ByteArray)(w:World)(hs:s.size<=140737488351232):Calls Try.prog 20 #[.string s] w fun e w'=>e=.returned (.bool (xbr s))/\w'=w:=by
 have HN0:Hid (okB s=false->xbr s=false):=fun h=>by simp[xbr,h]
 go_enter Try.func20,Try.ntmps20;go_wp2
 go_loopg [6] s.size (fun g c wr=>∃ j:Nat,j+g=s.size/\c=.int .i64 j/\wr=w/\∀ i (hi:i<s.size),i<j->33<=s[i].toNat/\s[i].toNat<=126)
 case atStart=>exact⟨0,by omega,rfl,rfl,fun i _ hi=>by omega⟩
 case round=>
  obtain⟨j,hj,rfl,hwr,hok⟩:=hrel;subst hwr;have HO:Hid (∀ i (hi:i<s.size),i<j->33<=s[i].toNat/\s[i].toNat<=126):=hok;clear hok
  by_cases hlt:j<s.size
  ·have hj0:(0:Int)<=(j:Int):=by omega
   have hj1:(j:Int)<(s.size:Int):=by omega
   by_cases c1:s[j].toNat<33
   ·have hn:Hid (okB s=false):=xg6 hlt (by omega)
    have c1':((s[j].toNat:Nat):Int)<33:=by omega
    go_wp2
    go_ret
    exact⟨xby (by rw[HN0.out hn.out]),rfl⟩
   ·have c1':(33:Int)<=((s[j].toNat:Nat):Int):=by omega
    by_cases c2:126<s[j].toNat
    ·have hn:Hid (okB s=false):=xg6 hlt (by omega)
     have c2':(126:Int)<((s[j].toNat:Nat):Int):=by omega
     go_wp2
     go_ret
     exact⟨xby (by rw[HN0.out hn.out]),rfl⟩
    ·have c2':((s[j].toNat:Nat):Int)<=126:=by omega
     have HT:Hid (33<=s[j].toNat/\s[j].toNat<=126):=by constructor<;>omega
     clear c1 c2;go_wp2
     go_roundg (gk-1)
     case measure=>omega
     case rel=>
      refine⟨j+1,by omega,by go_num,rfl,fun i hi hij=>?_⟩
      by_cases he:i=j
      ·subst he;exact HT.out
      ·exact HO.out i hi (by omega)
  ·have HK:Hid (okB s=true):=xjA fun i hi=>HO.out i hi (by omega)
   by_cases h0:0<s.size
   ·have h0':(0:Int)<(s.size:Int):=by omega
    go_wp2
    go_ret
    exact⟨xby (by unfold xbr;rw[HK.out,Bool.and_true,Bool.eq_iff_iff];simp;omega),rfl⟩
   ·have h0':(s.size:Int)<=0:=by omega
    go_wp2
    go_ret
    exact⟨xby (by unfold xbr;rw[HK.out,Bool.and_true,Bool.eq_iff_iff];simp;omega),rfl⟩
theorem xgL {P Q:Nat->Prop}(X:QW)(s:QV)(name:ByteArray)(args:List QV)(fuel:Int)(cv hv av:Value)(w:World)(hcv:∃ a n c,cv=.slice a n c)(hH:xaD P w hv X.heap)(hA:xaO Q w av args)(hn:name.size<=140737488351232):Calls Try.prog 42 #[WV cv hv X.ez,ClV s name av,.int .i64 fuel] w fun e w'=>e=.returned (.int .i64 (xar X s name args fuel))/\Below w.heap.size w w':=by
 have hR:=xjk w cv hv X.ez s name av;obtain⟨ah,ch,rfl,-⟩:=id hH;obtain⟨aa,ca,rfl,hal,hac,-,hrow⟩:=id hA;obtain⟨ac,nc,cc,rfl⟩:=hcv;unfold maxLen at hac;go_enter Try.func42,Try.ntmps42
 go_upto_region 1 with (fail)
 generalize ((w.alloc (.cells #[.slice ac nc cc,.slice ah X.heap.length ch,.int .i64 X.ez] 25)).alloc (.cells #[.int .i64 s.k,.int .i64 s.n,.string name,.slice aa args.length ca] 30))=W at *;obtain⟨-,w0,w1,w2,c0,c1,c2,c3⟩:=id hR;go_wp2_with fail;refine (xsa name _ hn).mono ?_;rintro e w1' ⟨rfl,hw1⟩;subst hw1;have hb1:=qzL w1'.heap.size w1';have hR1:=hR.later hb1;clear w0 w1 w2 c0 c1 c2 c3 hR hb1;obtain⟨-,w0,w1,w2,c0,c1,c2,c3⟩:=id hR1
 cases hnb:xbr name with
 | false=>
  have HE:Hid (xar X s name args fuel=7):=by show _=_;unfold xar;rw[if_pos hnb]
  go_wp2
  go_ret
  exact⟨xan HE.out.symm,hR1.bel⟩
 | true=>
  by_cases h4:4<args.length
  ·have HE:Hid (xar X s name args fuel=5):=by show _=_;unfold xar;rw[if_neg (by rw[hnb];simp),if_pos h4]
   have h4':(4:Int)<(args.length:Int):=by omega
   go_wp2
   go_ret
   exact⟨xan HE.out.symm,hR1.bel⟩
  have h4':¬ ((4:Int)<(args.length:Int)):=by omega
  by_cases hf:fuel<0
  ·have HE:Hid (xar X s name args fuel=3):=by show _=_;unfold xar;rw[if_neg (by rw[hnb];simp),if_neg h4,if_pos (Or.inl hf)]
   have hf':decide (fuel<0)=true:=by simpa using hf
   go_wp2
   go_ret
   exact⟨xan HE.out.symm,hR1.bel⟩
  have hf':decide (fuel<0)=false:=by simpa using hf
  by_cases hg:400<fuel
  ·have HE:Hid (xar X s name args fuel=3):=by show _=_;unfold xar;rw[if_neg (by rw[hnb];simp),if_neg h4,if_pos (Or.inr hg)]
   have hg':decide (400<fuel)=true:=by simpa using hg
   go_wp2
   go_ret
   exact⟨xan HE.out.symm,hR1.bel⟩
  have hg':decide (400<fuel)=false:=by simpa using hg
  have HE:Hid (xar X s name args fuel=if xax X.heap.length s≠0 then xax X.heap.length s else xbo (fun _ v=>xax X.heap.length v) 0 args):=by show _=_;unfold xar;rw[if_neg (by rw[hnb];simp),if_neg h4,if_neg (by omega)]
  clear hnb hf hg;have hvw:=fun w=>xr4 s (X.heap.length:Int) w
  generalize xax X.heap.length s=ws at *;go_wp2_with fail;refine (hvw _).mono ?_;rintro e w2' ⟨rfl,hb2⟩;have hR2:=hR1.later hb2;clear w0 w1 w2 c0 c1 c2 c3 hR1 hb2 hvw;obtain⟨-,w0,w1,w2,c0,c1,c2,c3⟩:=id hR2
  by_cases hws:ws=0
  ·have hws':(ws != 0)=false:=by simpa using hws
   rw[if_neg (by simpa using hws)] at HE
   clear hws;go_wp2;clear w0 w1 w2 c0 c1 c2 c3
   go_loopg [37] args.length (fun gk c wr=>∃ j:Nat,j+gk=args.length/\c=.int .i64 j/\WcR w (.slice ac nc cc) (.slice ah X.heap.length ch) X.ez s name (.slice aa args.length ca) wr/\∀ i y,i<j->args[i]?=some y->xax X.heap.length y=0)
   case atStart=>exact⟨0,by omega,rfl,hR2,fun i y hi=>by omega⟩
   case round=>
    clear hR2;obtain⟨j,hj,rfl,hRr,hok⟩:=hrel;have HO:=hid hok;clear hok;obtain⟨-,w0,w1,w2,c0,c1,c2,c3⟩:=id hRr
    by_cases hlt:j<args.length
    ·have hx:args[j]?=some args[j]:=by simp[hlt]
     have HX:=hid hx;generalize args[j]=y at *;obtain⟨b,o,rfl,-,v0,v1⟩:=hrow j y hx;simp only[Nat.add_zero] at v0;have u0:=qzA hRr.bel v0;have u1:=qzA hRr.bel v1;clear v0 v1 hrow hx;have hj1:(j:Int)<(args.length:Int):=by omega
     have hj0:(0:Int)<=(j:Int):=by omega
     have hvw:=fun w=>xr4 y (X.heap.length:Int) w
     obtain⟨wy,hwy⟩:∃ wy,wy=xax X.heap.length y:=⟨_,rfl⟩;rw[← hwy] at hvw;have HWY:=hid hwy;clear hwy;have hRa:=hRr.later (xak wr (.cells #[.int .i64 y.k,.int .i64 y.n] 27));have y0:(wr.alloc (.cells #[.int .i64 y.k,.int .i64 y.n] 27)).cell? ⟨wr.heap.size,0,none⟩=some (.int .i64 y.k):=xaa _ _ _ _ rfl 0;have y1:(wr.alloc (.cells #[.int .i64 y.k,.int .i64 y.n] 27)).cell? ⟨wr.heap.size,1,none⟩=some (.int .i64 y.n):=xaa _ _ _ _ rfl 1
     go_upto_region 13 with (fail)
     clear w0 w1 w2 c0 c1 c2 c3 u0 u1 hRr;generalize (wr.alloc (.cells #[.int .i64 y.k,.int .i64 y.n] 27))=V at *;obtain⟨-,w0,w1,w2,c0,c1,c2,c3⟩:=id hRa;go_wp2_with fail;refine (hvw _).mono ?_;rintro e w5 ⟨rfl,hb5⟩;have hR5:=hRa.later hb5;clear w0 w1 w2 c0 c1 c2 c3 hRa hb5 hvw y0 y1
     by_cases hz:wy=0
     ·have hz':(wy != 0)=false:=by simpa using hz
      go_wp2
      go_roundg (gk-1)
      case measure=>omega
      case rel=>
       refine⟨j+1,by omega,by go_num,hR5,fun i y' hi hy=>?_⟩
       by_cases hij:i=j
       ·subst hij;rw[HX.out] at hy;cases hy;rw[← HWY.out];exact hz
       ·exact HO.out i y' (by omega) hy
     ·have hz':(wy != 0)=true:=by simpa using hz
      go_wp2
      go_ret
      refine⟨xan ?_,hR5.bel⟩;have:=xdt (f:=fun _ v=>xax X.heap.length v) (k:=0) HX.out (by rw[← HWY.out];exact hz) (fun i y' hi hy=>HO.out i y' hi hy)
      rw[HE.out,this,HWY.out]
    ·obtain rfl:j=args.length:=by omega
     go_wp2
     go_ret
     refine⟨xan ?_,hRr.bel⟩;rw[HE.out,xds fun i y hy=>HO.out i y (xae hy) hy]
  ·have hws':(ws != 0)=true:=by simpa using hws
   rw[if_pos hws] at HE;go_wp2
   go_ret
   exact⟨xan HE.out.symm,hR2.bel⟩
theorem xos {hs:List QO}{v:QV}{o:QO}(hk:v.k=4)(h:xd2 hs v=some o):xas hs v=o.cls:=by
 unfold xas;rw[if_neg (by omega),if_neg (by omega),if_neg (by omega),h];rfl
theorem xmw {hs:List QO}{v:QV}(hk:v.k<0\/3<v.k)(h:xd2 hs v=none):xas hs v=0:=by
 unfold xas;rw[if_neg (by omega),if_neg (by omega),if_neg (by omega),h];rfl
theorem xg7 {P:Nat->Prop}(hs:List QO)(hv:Value)(v:QV)(w:World)(h:xaD P w hv hs):Calls Try.prog 43 #[hv,VV v] w fun e w'=>e=.returned (.int .i64 (xas hs v))/\Below w.heap.size w w':=by
 have hb1:=xak w (.cells #[.int .i64 v.k,.int .i64 v.n] 27);have h1:=h.later xaE hb1;have b0:(w.alloc (.cells #[.int .i64 v.k,.int .i64 v.n] 27)).cell? ⟨w.heap.size,0,none⟩=some (.int .i64 v.k):=xaa _ _ _ _ rfl 0;have b1:(w.alloc (.cells #[.int .i64 v.k,.int .i64 v.n] 27)).cell? ⟨w.heap.size,1,none⟩=some (.int .i64 v.n):=xaa _ _ _ _ rfl 1;obtain⟨a,cap,rfl,-,hcap,-,-⟩:=id h;unfold maxLen at hcap;clear h;go_enter Try.func43,Try.ntmps43
 go_upto_region 1 with (fail)
 generalize (w.alloc (.cells #[.int .i64 v.k,.int .i64 v.n] 27))=W at *
 cases hi:xdJ hs.length v with
 | true=>
  obtain⟨j,o,hj,hjl,hjo,hob⟩:=xgj hi;have hk:v.k=4:=by unfold xdJ at hi;have:=of_decide_eq_true hi;exact this.1
  have HE:=hid (xos hk hob);have hk':(v.k == 4)=true:=by simpa using hk
  rw[hj] at b1;obtain⟨a',cap',e,-,-,-,hrow⟩:=h1
  cases e
  obtain⟨b,of,rfl,-,e0,-⟩:=hrow j o hjo;simp only[Nat.add_zero] at e0;have hj1:(j:Int)<(hs.length:Int):=by omega
  have hj0:(0:Int)<=(j:Int):=by omega
  clear hj hjo hob hrow hk hi;go_wp2
  go_ret
  exact⟨xan HE.out.symm,hb1⟩
 | false=>
  have hN:=xeI hi;have hi':¬ (v.k=4/\0<=v.n/\v.n<hs.length):=by unfold xdJ at hi;exact of_decide_eq_false hi
  have HC0:=hid fun h=>xmw (hs:=hs) (v:=v) h hN
  have HC:Hid (v.k=0->xas hs v=1):=fun h=>by unfold xas;rw[if_pos h]
  have HC1:Hid (v.k=1\/v.k=2->xas hs v=2):=fun h=>by unfold xas;rw[if_neg (by omega),if_pos h]
  have HC3:Hid (v.k=3->xas hs v=3):=fun h=>by unfold xas;rw[if_neg (by omega),if_neg (by omega),if_pos h]
  clear h1 hi hN
  by_cases hk:v.k<0\/3<v.k
  ·have HE:=hid (HC0.out hk)
   by_cases h4:v.k=4
   ·have h4':(v.k == 4)=true:=by simpa using h4
    by_cases hn:0<=v.n
    ·have hn2:¬ v.n<(hs.length:Int):=by omega
     go_wp2
     go_ret
     exact⟨xan HE.out.symm,hb1⟩
    ·go_wp2
     go_ret
     exact⟨xan HE.out.symm,hb1⟩
   ·have h4':(v.k == 4)=false:=by simpa using h4
    by_cases hneg:v.k<0
    ·go_wp2
     go_ret
     exact⟨xan HE.out.symm,hb1⟩
    ·have h3:3<v.k:=by omega
     go_wp2
     go_ret
     exact⟨xan HE.out.symm,hb1⟩
  ·have h4':(v.k == 4)=false:=by simp;omega
   obtain⟨m,hm,hm4⟩:∃ m:Nat,v.k=(m:Int)/\m<4:=⟨v.k.toNat,by omega,by omega⟩
   have e1:¬ v.k<0:=by omega
   have e2:¬ 3<v.k:=by omega
   clear hk hi'
   match m,hm4 with
   | 0,_=>have hm0:v.k=0:=hm;rw[hm0] at b0 h4' e1 e2;have k0:=fun y=>qzA (xak W y) b0;have HE:=hid (HC.out hm);clear HC HC0 HC1 HC3 hm hm0;go_wp2;go_ret;exact⟨xan HE.out.symm,xaf hb1 (xak _ _)⟩
   | 1,_=>have hm0:v.k=1:=hm;rw[hm0] at b0 h4' e1 e2;have k0:=fun y=>qzA (xak W y) b0;have HE:=hid (HC1.out (Or.inl hm));clear HC HC0 HC1 HC3 hm hm0;go_wp2;go_ret;exact⟨xan HE.out.symm,xaf hb1 (xak _ _)⟩
   | 2,_=>have hm0:v.k=2:=hm;rw[hm0] at b0 h4' e1 e2;have k0:=fun y=>qzA (xak W y) b0;have HE:=hid (HC1.out (Or.inr hm));clear HC HC0 HC1 HC3 hm hm0;go_wp2;go_ret;exact⟨xan HE.out.symm,xaf hb1 (xak _ _)⟩
   | 3,_=>have hm0:v.k=3:=hm;rw[hm0] at b0 h4' e1 e2;have k0:=fun y=>qzA (xak W y) b0;have HE:=hid (HC3.out hm);clear HC HC0 HC1 HC3 hm hm0;go_wp2;go_ret;exact⟨xan HE.out.symm,xaf hb1 (xak _ _)⟩
theorem xeE (b:Bool)(w:World):Calls Try.prog 85 #[.bool b] w fun e w'=>e=.returned (VV ⟨if b then 2 else 1,0⟩)/\Below w.heap.size w w':=by
 go_enter Try.func85,Try.ntmps85
 cases b
 ·go_wp2;refine qzK (v:=VV ⟨1,0⟩) ?_ rfl ⟨rfl,xak _ _⟩
  simp[results,Try.results85,go_sem]
 ·go_wp2;refine qzK (v:=VV ⟨2,0⟩) ?_ rfl ⟨rfl,xak _ _⟩
  simp[results,Try.results85,go_sem]
end Go.Proofs.Ytdfbgpiikeheiaa
