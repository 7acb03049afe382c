/- A part. -/
import Derived.Test.YtapbeiccodnniaaGreatM20
import Derived.OneCell
import Derived.Laws.OwnMore
namespace Go.Proofs.YtapbeiccodnniaaGreat
open Go.ChangeShapes Go.WideShapes Go.ChangeAt Go.RowKit
set_option linter.unusedSimpArgs false
set_option linter.unusedVariables false
set_option maxHeartbeats 8000000
set_option maxRecDepth 8000
theorem xk4 {σ:Type}(m:Mc σ)(f:Fr)(a b:Int):(xaX m f a b).2.1.fast=f.fast:=by
 unfold xaX
 by_cases h:b<=a
 ·simp only[h,if_true];split<;>rfl
 ·simp only[h,if_false];split<;>rfl
theorem xna {σ:Type}(ent:Ent σ)(E:Env σ)(d:Nat)(m:Mc σ)(f:Fr)(a:Int)(x:QI)(hf:f.fast=false):(xan ent E d m f a x).2.1.fast=false:=by
 unfold xan
 split
 ·exact hf
 ·split
  ·exact hf
  ·split
   ·exact hf
   ·split
    ·exact hf
    ·split
     ·exact hf
     ·split
      ·unfold xbQ;split<;>exact hf
      ·split
       ·unfold xcm;simp only;split<;>exact hf
       ·split
        ·rw[xk4];exact hf
        ·split
         ·unfold xbr
          split
          ·exact hf
          ·split
           ·rw[xk4];exact hf
           ·exact hf
         ·unfold xcl;rw[if_pos hf];exact hf
theorem xkl {P:Nat->Prop}(hs:List QO)(hv:Value)(v:QV)(n:Int)(w:World)(h:xaC P w hv hs):Calls Tryz.prog 69 #[hv,VV v,.int .i64 n] w fun e w'=>e=.returned (VV (xcV hs v n))/\Below w.heap.size w w':=by
 have hb1:=xca w (.cells #[.int .i64 v.k,.int .i64 v.n] 27) (.cells #[.int .i64 0,.int .i64 0] 27);have h1:=h.later xaD hb1;have hR0:=xhM w v;obtain⟨a,cap,rfl,-,hcap,-,-⟩:=id h;unfold maxLen at hcap;clear h;go_enter Tryz.func69,Tryz.ntmps69
 go_upto_region 1 with (fail)
 generalize ((w.alloc (.cells #[.int .i64 v.k,.int .i64 v.n] 27)).alloc (.cells #[.int .i64 0,.int .i64 0] 27))=W at *;obtain⟨b0,b1,r0,r1,rf,sz⟩:=id hR0
 cases hi:xdr hs.length v with
 | true=>
  obtain⟨j,o,hj,hjl,hjo,hob⟩:=xe6 hi;have hk:v.k=4:=by unfold xdr at hi;have:=of_decide_eq_true hi;exact this.1
  have HE:Hid (xcV hs v n=xaM o.slots n):=by show _=_;unfold xcV;rw[hob];rfl
  rw[hj] at b1;rw[hk] at b0;obtain⟨a',cap',e,-,-,-,hrow⟩:=h1
  cases e
  obtain⟨b,of,rfl,-,-,sv,e1,hsl⟩:=hrow j o hjo;obtain⟨asl,csl,rfl,hl2,hc2,-,hrs⟩:=id hsl;unfold maxLen at hc2;have hj1:(j:Int)<(hs.length:Int):=by omega
  have hj0:(0:Int)<=(j:Int):=by omega
  clear hj hjo hob hrow hk hi;go_wp2
  go_loopg [31] o.slots.length (fun g c wr=>∃ q:Nat,q+g=o.slots.length/\c=.int .i64 q/\Below W.heap.size W wr/\∀ i:Nat,i<q->(i:Int)≠n)
  case atStart=>exact⟨0,by omega,rfl,qzL _ _,fun i hi=>by omega⟩
  case round=>
   obtain⟨q,hq,rfl,hbel,hno⟩:=hrel;have HN:Hid (∀ i:Nat,i<q->(i:Int)≠n):=hno;clear hno
   by_cases hlt:q<o.slots.length
   ·obtain⟨b2,o2,rfl,-,y0,y1⟩:=hrs q o.slots[q] (by simp[hlt])
    have hxq:Hid (o.slots[q]?=some o.slots[q]):=by show _=_;simp[hlt]
    generalize o.slots[q]=x at *;simp only[Nat.add_zero] at y0;have z0:=qzA hbel y0;have z1:=qzA hbel y1;have hq1:(q:Int)<(o.slots.length:Int):=by omega
    have hq0:(0:Int)<=(q:Int):=by omega
    have hbx:=xaj wr (.cells #[.int .i64 x.k,.int .i64 x.n] 27);have hsz:=hbel.size;clear hrs
    by_cases hn:(q:Int)=n
    ·have HV:Hid (xaM o.slots n=x):=by show _=_;unfold xaM;rw[← hn,if_neg (by omega)];simp[hxq.out]
     have s0:=qzA hbx (qzA hbel r0);have s1:=qzA hbx (qzA hbel r1);have sf:∀ o,(wr.alloc (.cells #[.int .i64 x.k,.int .i64 x.n] 27)).frozen? ⟨w.heap.size+1,o,none⟩=false:=fun o=>((hbx.frozen (p:=⟨w.heap.size+1,o,none⟩) (by simp;omega)).trans (hbel.frozen (p:=⟨w.heap.size+1,o,none⟩) (by simp;omega))).trans (rf o)
     have hne:¬ w.heap.size+1=wr.heap.size:=by omega
     have hne':¬ wr.heap.size=w.heap.size+1:=by omega
     subst hn;go_wp2;refine qzK (v:=VV x) ?_ rfl ⟨by rw[HE.out,HV.out],(((xah hb1 hbel).alloc (by omega) _).setCell (by simp) _).setCell (by simp) _⟩
     simp[results,Tryz.results69,go_sem,s0,s1]
    ·have hd:((q:Int) == n)=false:=by simpa using hn
     have HQ:=hid hn;clear hn;go_wp2
     go_roundg (gk-1)
     case measure=>omega
     case rel=>
      refine⟨q+1,by omega,by go_num,xah hbel hbx,fun i hi=>?_⟩
      by_cases hiq:i=q
      ·subst hiq;exact HQ.out
      ·exact HN.out i (by omega)
   ·obtain rfl:q=o.slots.length:=by omega
    have HV:Hid (xaM o.slots n=xaU):=by
     show _=_
     unfold xaM
     split
     ·rfl
     ·rename_i hn;have:¬ n.toNat<o.slots.length:=fun h=>HN.out n.toNat h (by omega)
      rw[List.getElem?_eq_none (by omega)];rfl
    have hsz:=hbel.size;have s0:=qzA hbel r0;have s1:=qzA hbel r1;have sf:∀ o,wr.frozen? ⟨w.heap.size+1,o,none⟩=false:=fun o=>(hbel.frozen (p:=⟨w.heap.size+1,o,none⟩) (by simp;omega)).trans (rf o)
    go_wp2;refine qzK (v:=VV xaU) ?_ rfl ⟨by rw[HE.out,HV.out],((xah hb1 hbel).setCell (by simp) _).setCell (by simp) _⟩
    simp[results,Tryz.results69,go_sem,s0,s1]
 | false=>
  have hN:=xdO hi;have hi':¬ (v.k=4/\0<=v.n/\v.n<hs.length):=by unfold xdr at hi;exact of_decide_eq_false hi
  have HE:Hid (xcV hs v n=xaU):=by show _=_;unfold xcV;rw[hN];rfl
  clear hi hN h1
  by_cases h4:v.k=4
  ·rw[h4] at b0
   by_cases hn:0<=v.n
   ·have hn2:¬ v.n<(hs.length:Int):=by omega
    have hn3:(hs.length:Int)<=v.n:=by omega
    clear hi' h4;go_wp2;refine qzK (v:=VV xaU) ?_ rfl ⟨by rw[HE.out],(hb1.setCell (by simp) _).setCell (by simp) _⟩
    simp[results,Tryz.results69,go_sem,r0,r1]
   ·have hn3:v.n<0:=by omega
    clear hi' h4;go_wp2;refine qzK (v:=VV xaU) ?_ rfl ⟨by rw[HE.out],(hb1.setCell (by simp) _).setCell (by simp) _⟩
    simp[results,Tryz.results69,go_sem,r0,r1]
  ·have h4':(v.k == 4)=false:=by simpa using h4
   clear hi' h4;go_wp2;refine qzK (v:=VV xaU) ?_ rfl ⟨by rw[HE.out],(hb1.setCell (by simp) _).setCell (by simp) _⟩
   simp[results,Tryz.results69,go_sem,r0,r1]
abbrev RSt:=List (QS × Int)
def xcK (X:QW)(fuel:Int):Env RSt:=⟨X.cz,fuel,fun l s c name=>(l++[(s,c)],xaw X.cz c name),xfk⟩
def xcG:RSt->List Value
 | []=>[]
 | p :: r=>.int .i64 p.1.cls :: .string p.1.name :: .int .i64 p.1.at' :: xcG r
def xcw:RSt->List Value
 | []=>[]
 | p :: r=>.int .i64 p.2 :: xcw r
theorem xdP:∀ q r,xcG (q++r)=xcG q++xcG r
 | [],r=>rfl
 | p :: q,r=>by simp[xcG,xdP q r]
theorem xd4:∀ q r,xcw (q++r)=xcw q++xcw r
 | [],r=>rfl
 | p :: q,r=>by simp[xcw,xd4 q r]
structure Rp where
 X:QW
 fuel:Int
 cv:Value
abbrev RB (p:Rp)(m:Mc RSt)(deep err:Int)(hv sv ov:Value):Obj:=.cells #[p.cv,hv,.int .i64 p.X.ez,.int .i64 p.fuel,.int .i64 m.sz_,.int .i64 m.turns,.int .i64 deep,.int .i64 err,sv,ov] 89 (0,0)
structure RMac (p:Rp)(T:Nat->Nat)(w:World)(mb:Nat)(m:Mc RSt)(deep err:Int)(hv sv ov:Value):Prop where
 box:w.heap[mb]?=some (RB p m deep err hv sv ov)
 tag:T mb=1
 cls:xai (Fx T w) w p.cv p.X.cz
 heap:xaC (Fx T w) w hv m.heap
 sites:ownsAt w 0 67 3 sv m.st.length (xcG m.st)
 stag:∀ g,sv.ownBlock=some g->T g=2
 of:ownsAt w 0 3 1 ov m.st.length (xcw m.st)
 otag:∀ g,ov.ownBlock=some g->T g=3
section
variable {p:Rp} {T T':Nat->Nat} {w w':World} {mb:Nat} {m m':Mc RSt} {deep err deep' err':Int} {hv sv ov:Value}
theorem RMac.keep {S:Nat->Prop}(h:RMac p T w mb m deep err hv sv ov)(e:Ext T T' w)(k:Kp S T w w')(h0:¬ S 0)(h1:¬ S 1)(h2:¬ S 2)(h3:¬ S 3):RMac p T' w' mb m deep err hv sv ov:=
 ⟨k.held h.box (by rw[h.tag];exact h1),by rw[e _ (xaf h.box)];exact h.tag,h.cls.fx xaz e k h0,h.heap.fx xaD e k h0,h.sites.keep fun g hg=>k.blk g (h.sites.lt g hg).2 (by rw[h.stag g hg];exact h2),fun g hg=>by rw[e _ (h.sites.lt g hg).2];exact h.stag g hg,h.of.keep fun g hg=>k.blk g (h.of.lt g hg).2 (by rw[h.otag g hg];exact h3),fun g hg=>by rw[e _ (h.of.lt g hg).2];exact h.otag g hg⟩
theorem RMac.later (h:RMac p T w mb m deep err hv sv ov)(hb:Below w.heap.size w w'):RMac p T w' mb m deep err hv sv ov:=h.keep (S:=fun _=>False) (.refl _ _) (.of_below hb) id id id id
theorem RMac.turn (h:RMac p T w mb m deep err hv sv ov)(k:Kp (fun t=>t=1) T w w')(hb:w'.heap[mb]?=some (RB p m' deep' err' hv sv ov))(e:m'.heap=m.heap)(e2:m'.st=m.st):RMac p T w' mb m' deep' err' hv sv ov:=by
 refine⟨hb,h.tag,h.cls.fx xaz (.refl _ _) k (by omega),by rw[e];exact h.heap.fx xaD (.refl _ _) k (by omega),?_,h.stag,?_,h.otag⟩
 ·rw[e2];exact h.sites.keep fun g hg=>k.blk g (h.sites.lt g hg).2 (by rw[h.stag g hg];omega)
 ·rw[e2];exact h.of.keep fun g hg=>k.blk g (h.of.lt g hg).2 (by rw[h.otag g hg];omega)
theorem RMac.c0 (h:RMac p T w mb m deep err hv sv ov):w.cell? ⟨mb,0,none⟩=some p.cv:=by rw[qzB h.box];rfl
theorem RMac.c1 (h:RMac p T w mb m deep err hv sv ov):w.cell? ⟨mb,1,none⟩=some hv:=by rw[qzB h.box];rfl
theorem RMac.c2 (h:RMac p T w mb m deep err hv sv ov):w.cell? ⟨mb,2,none⟩=some (.int .i64 p.X.ez):=by rw[qzB h.box];rfl
theorem RMac.c3 (h:RMac p T w mb m deep err hv sv ov):w.cell? ⟨mb,3,none⟩=some (.int .i64 p.fuel):=by rw[qzB h.box];rfl
theorem RMac.c4 (h:RMac p T w mb m deep err hv sv ov):w.cell? ⟨mb,4,none⟩=some (.int .i64 m.sz_):=by rw[qzB h.box];rfl
theorem RMac.c5 (h:RMac p T w mb m deep err hv sv ov):w.cell? ⟨mb,5,none⟩=some (.int .i64 m.turns):=by rw[qzB h.box];rfl
theorem RMac.c6 (h:RMac p T w mb m deep err hv sv ov):w.cell? ⟨mb,6,none⟩=some (.int .i64 deep):=by rw[qzB h.box];rfl
theorem RMac.c7 (h:RMac p T w mb m deep err hv sv ov):w.cell? ⟨mb,7,none⟩=some (.int .i64 err):=by rw[qzB h.box];rfl
theorem RMac.c8 (h:RMac p T w mb m deep err hv sv ov):w.cell? ⟨mb,8,none⟩=some sv:=by rw[qzB h.box];rfl
theorem RMac.c9 (h:RMac p T w mb m deep err hv sv ov):w.cell? ⟨mb,9,none⟩=some ov:=by rw[qzB h.box];rfl
theorem xnK (h:w.heap[mb]?=some (RB p m deep err hv sv ov))(n:Int):(w.setCell ⟨mb,4,none⟩ (.int .i64 n)).heap[mb]?=some (RB p { m with sz_:=n } deep err hv sv ov):=by rw[xad h];rfl
theorem xom (h:w.heap[mb]?=some (RB p m deep err hv sv ov))(n:Int):(w.setCell ⟨mb,5,none⟩ (.int .i64 n)).heap[mb]?=some (RB p { m with turns:=n } deep err hv sv ov):=by rw[xad h];rfl
theorem xn2 (h:w.heap[mb]?=some (RB p m deep err hv sv ov))(n:Int):(w.setCell ⟨mb,6,none⟩ (.int .i64 n)).heap[mb]?=some (RB p m n err hv sv ov):=by rw[xad h];rfl
theorem xne (h:w.heap[mb]?=some (RB p m deep err hv sv ov))(n:Int):(w.setCell ⟨mb,7,none⟩ (.int .i64 n)).heap[mb]?=some (RB p m deep n hv sv ov):=by rw[xad h];rfl
theorem xj1 (h:w.heap[mb]?=some (RB p m deep err hv sv ov))(xs:List QO)(hv':Value):(w.setCell ⟨mb,1,none⟩ hv').heap[mb]?=some (RB p { m with heap:=xs } deep err hv' sv ov):=by rw[xad h];rfl
theorem xnH (h:w.heap[mb]?=some (RB p m deep err hv sv ov))(sv':Value):(w.setCell ⟨mb,8,none⟩ sv').heap[mb]?=some (RB p m deep err hv sv' ov):=by rw[xad h];rfl
theorem xnq (h:w.heap[mb]?=some (RB p m deep err hv sv ov))(l:RSt)(ov':Value):(w.setCell ⟨mb,9,none⟩ ov').heap[mb]?=some (RB p { m with st:=l } deep err hv sv ov'):=by rw[xad h];rfl
theorem RMac.num4 (h:RMac p T w mb m deep err hv sv ov)(n:Int):RMac p T (w.setCell ⟨mb,4,none⟩ (.int .i64 n)) mb { m with sz_:=n } deep err hv sv ov:=h.turn ((Kp.refl _ _ _).set (fun _=>h.tag) _ _) (xnK h.box n) rfl rfl
theorem RMac.num5 (h:RMac p T w mb m deep err hv sv ov)(n:Int):RMac p T (w.setCell ⟨mb,5,none⟩ (.int .i64 n)) mb { m with turns:=n } deep err hv sv ov:=h.turn ((Kp.refl _ _ _).set (fun _=>h.tag) _ _) (xom h.box n) rfl rfl
theorem RMac.num6 (h:RMac p T w mb m deep err hv sv ov)(n:Int):RMac p T (w.setCell ⟨mb,6,none⟩ (.int .i64 n)) mb m n err hv sv ov:=h.turn ((Kp.refl _ _ _).set (fun _=>h.tag) _ _) (xn2 h.box n) rfl rfl
theorem RMac.num7 (h:RMac p T w mb m deep err hv sv ov)(n:Int):RMac p T (w.setCell ⟨mb,7,none⟩ (.int .i64 n)) mb m deep n hv sv ov:=h.turn ((Kp.refl _ _ _).set (fun _=>h.tag) _ _) (xne h.box n) rfl rfl
theorem kp1 (h:RMac p T w mb m deep err hv sv ov)(o:Nat)(v:Value):Kp (fun t=>t=1) T w (w.setCell ⟨mb,o,none⟩ v):=(Kp.refl _ _ _).set (fun _=>h.tag) _ _
end
structure RF (T:Nat->Nat)(K:Nat)(w:World)(B:Nat)(f:Fr)(av kv sv:Value):Prop where
 m0:w.heap[B]?=some (.cells #[.string f.meth.name,.int .i64 f.meth.args,.int .i64 f.meth.temps,.int .i64 f.meth.prim,kv] 59 (0,0))
 s0:w.heap[B+1]?=some (.cells #[.int .i64 f.self.k,.int .i64 f.self.n] 27 (0,0))
 tm:w.heap[B+3]?=some (.cells (xal f.temps).toArray 27 (0,0))
 sb:w.heap[B+4]?=some (.cells #[sv] 28 (0,0))
 tB:T B=4
 t1:T (B+1)=4
 t3:T (B+3)=K+1
 t4:T (B+4)=K
 stack:ownsAt w 0 27 2 sv f.stack.length (xal f.stack)
 stag:∀ g,sv.ownBlock=some g->T g=K+2
 few:f.stack.length<=1000000
 args:xaB (Fx T w) w av f.args
 code:xa5 (Fx T w) w kv f.code
 pos:5<=K
section
variable {T T':Nat->Nat} {K:Nat} {w w':World} {B:Nat} {f f':Fr} {av kv sv:Value}
theorem RF.keep {S:Nat->Prop}(h:RF T K w B f av kv sv)(e:Ext T T' w)(k:Kp S T w w')(h0:¬ S 0)(h4:¬ S 4)(hK:¬ S K)(h1:¬ S (K+1))(h2:¬ S (K+2)):RF T' K w' B f av kv sv:=
 ⟨k.held h.m0 (by rw[h.tB];exact h4),k.held h.s0 (by rw[h.t1];exact h4),k.held h.tm (by rw[h.t3];exact h1),k.held h.sb (by rw[h.t4];exact hK),by rw[e _ (xaf h.m0)];exact h.tB,by rw[e _ (xaf h.s0)];exact h.t1,by rw[e _ (xaf h.tm)];exact h.t3,by rw[e _ (xaf h.sb)];exact h.t4,
  h.stack.keep fun g hg=>k.blk g (h.stack.lt g hg).2 (by rw[h.stag g hg];exact h2),fun g hg=>by rw[e _ (h.stack.lt g hg).2];exact h.stag g hg,h.few,h.args.fx xaK e k h0,h.code.fx xbl e k h0,h.pos⟩
theorem RF.later (h:RF T K w B f av kv sv)(hb:Below w.heap.size w w'):RF T K w' B f av kv sv:=h.keep (S:=fun _=>False) (.refl _ _) (.of_below hb) id id id id id
theorem RF.at (h:RF T K w B f av kv sv)(n:Int):RF T K w B { f with pc:=n } av kv sv:=⟨h.m0,h.s0,h.tm,h.sb,h.tB,h.t1,h.t3,h.t4,h.stack,h.stag,h.few,h.args,h.code,h.pos⟩
theorem RF.k0 (h:RF T K w B f av kv sv):w.cell? ⟨B,0,none⟩=some (.string f.meth.name):=by rw[qzB h.m0];rfl
theorem RF.k4 (h:RF T K w B f av kv sv):w.cell? ⟨B,4,none⟩=some kv:=by rw[qzB h.m0];rfl
theorem RF.v0 (h:RF T K w B f av kv sv):w.cell? ⟨B+1,0,none⟩=some (.int .i64 f.self.k):=by rw[qzB h.s0];rfl
theorem RF.v1 (h:RF T K w B f av kv sv):w.cell? ⟨B+1,1,none⟩=some (.int .i64 f.self.n):=by rw[qzB h.s0];rfl
theorem RF.st (h:RF T K w B f av kv sv):w.cell? ⟨B+4,0,none⟩=some sv:=by rw[qzB h.sb];rfl
theorem RF.sf (h:RF T K w B f av kv sv)(o:Nat):w.frozen? ⟨B+4,o,none⟩=false:=xam h.sb o
theorem xkK (h:w.heap[B+4]?=some (.cells #[sv] 28 (0,0)))(sv':Value):(w.setCell ⟨B+4,0,none⟩ sv').heap[B+4]?=some (.cells #[sv'] 28 (0,0)):=by rw[xad h];rfl
theorem RF.stacked {sv':Value}{l:List QV}(h:RF T K w B f av kv sv)(e:Ext T T' w)(k:Kp (fun t=>t=K\/t=K+2) T w w')(hb:w'.heap[B+4]?=some (.cells #[sv'] 28 (0,0)))(ho:ownsAt w' 0 27 2 sv' l.length (xal l))(hg:∀ g,sv'.ownBlock=some g->T' g=K+2)(hl:l.length<=1000000):RF T' K w' B { f with stack:=l } av kv sv':=by
 have hp:=h.pos
 exact⟨k.held h.m0 (by rw[h.tB];omega),k.held h.s0 (by rw[h.t1];omega),k.held h.tm (by rw[h.t3];omega),hb,by rw[e _ (xaf h.m0)];exact h.tB,by rw[e _ (xaf h.s0)];exact h.t1,by rw[e _ (xaf h.tm)];exact h.t3,by rw[e _ (xaf h.sb)];exact h.t4,ho,hg,hl,h.args.fx xaK e k (by omega),h.code.fx xbl e k (by omega),hp⟩
theorem RF.pushed {U:World}{sv':Value}{vs:List QV}(h:RF T K w B f av kv sv)(hU:Below w.heap.size w U)(hn:(f.stack++vs).length<=1000000)
  (r1:ownsAt w' 0 27 2 sv' (f.stack++vs).length (xal f.stack++xal vs)) (r2:sv'.ownBlock=sv.ownBlock\/∃ g,sv'.ownBlock=some g/\U.heap.size<=g) (r3:Below 0 U w') (r4:∀ b,b<U.heap.size->some b≠sv.ownBlock->w'.heap[b]?=U.heap[b]?) :
  (∃ T',Ext T T' w/\RF T' K (w'.setCell ⟨B+4,0,none⟩ sv') B { f with stack:=f.stack++vs } av kv sv')/\Kp (fun t=>t=K\/t=K+2) T w (w'.setCell ⟨B+4,0,none⟩ sv'):=by
 have hlt:=xaf h.sb;have hp:=h.pos
 have kU:Kp (fun t=>t=K\/t=K+2) T w w':=⟨r3.os.trans hU.os,r3.tape.trans hU.tape,r3.output.trans hU.output,qzD hU.size r3.size,fun b hb hs=>by
  rw[r4 b (qzE hb hU.size) (fun e=>hs (Or.inr (h.stag b e.symm))),hU.block b hb]⟩
 have k:=kU.set (b:=B+4) (fun _=>Or.inl h.t4) 0 sv'
 obtain⟨T',hT,hg⟩:∃ T',Ext T T' w/\∀ g,sv'.ownBlock=some g->T' g=K+2:=by
  rcases r2 with e | ⟨g,e,hg⟩
  ·exact⟨T,.refl _ _,fun g hg=>h.stag g (by rw[← e];exact hg)⟩
  ·exact⟨xhE T g (K+2),xd5 (qzD hU.size hg),fun g' h'=>by rw[e] at h';cases h';exact xdv _ _ _⟩
 have hnb:some (B+4)≠sv.ownBlock:=fun e=>by have:=h.stag (B+4) e.symm;rw[h.t4] at this;omega
 have hbx:w'.heap[B+4]?=some (.cells #[sv] 28 (0,0)):=by rw[r4 _ (qzE hlt hU.size) hnb,hU.block _ hlt];exact h.sb
 refine⟨⟨T',hT,h.stacked hT k (xkK hbx sv') ?_ hg hn⟩,k⟩;rw[xck]
 exact r1.keep fun g hg'=>xab (fun e=>by have:=hg g hg';rw[e,hT _ hlt,h.t4] at this;omega) _
theorem RF.cut {a:Option Addr}{cap n:Nat}(h:RF T K w B f av kv (.slice a f.stack.length cap))(hn:n<=f.stack.length)(k:Kp (fun t=>t=K) T w w')(hb:w'.heap[B+4]?=some (.cells #[.slice a n cap] 28 (0,0))):RF T K w' B { f with stack:=f.stack.take n } av kv (.slice a n cap):=by
 have hfew:=h.few;have hl:(f.stack.take n).length=n:=by rw[List.length_take];omega
 have ho:∀ g,(Value.slice a n cap).ownBlock=some g->T g=K+2:=fun g hg=>h.stag g (by cases a<;>exact hg)
 refine h.stacked (.refl _ _) (k.mono fun t h=>Or.inl h) hb ?_ ho (by omega)
 rw[hl];have:=h.stack.take hn
 exact this.keep fun g hg=>k.blk g (this.lt g hg).2 (by rw[ho g hg];omega)
theorem RF.temped (h:RF T K w B f av kv sv)(j:Nat)(v:QV):RF T K ((w.setCell ⟨B+3,j*2,none⟩ (.int .i64 v.k)).setCell ⟨B+3,j*2+1,none⟩ (.int .i64 v.n)) B { f with temps:=f.temps.set j v } av kv sv/\Kp (fun t=>t=K+1) T w ((w.setCell ⟨B+3,j*2,none⟩ (.int .i64 v.k)).setCell ⟨B+3,j*2+1,none⟩ (.int .i64 v.n)):=by
 have hp:=h.pos;have k:Kp (fun t=>t=K+1) T w ((w.setCell ⟨B+3,j*2,none⟩ (.int .i64 v.k)).setCell ⟨B+3,j*2+1,none⟩ (.int .i64 v.n)):=((Kp.refl (fun t=>t=K+1) T w).set (b:=B+3) (fun _=>h.t3) _ _).set (b:=B+3) (fun _=>h.t3) _ _
 exact⟨⟨k.held h.m0 (by rw[h.tB];omega),k.held h.s0 (by rw[h.t1];omega),xiC h.tm j v,k.held h.sb (by rw[h.t4];omega),h.tB,h.t1,h.t3,h.t4,h.stack.keep fun g hg=>k.blk g (h.stack.lt g hg).2 (by rw[h.stag g hg];omega),h.stag,h.few,h.args.fx xaK (.refl _ _) k (by omega),h.code.fx xbl (.refl _ _) k (by omega),hp⟩,k⟩
theorem xem (h:RF T K w B f av kv sv)(hn:0<f.stack.length):Calls Tryz.prog 68 #[.pointer (some ⟨B+4,0,none⟩)] w fun e w'=>e=.returned (VV f.top)/\(∃ sv',RF T K w' B f.pop av kv sv')/\Kp (fun t=>t=K\/t=K+2) T w w':=by
 have hlt:=xaf h.sb;have hfew:=h.few;have hb1:=xca w (.cells #[.int .i64 0,.int .i64 0] 27) (.cells #[.int .i64 f.top.k,.int .i64 f.top.n] 27);have hb0:=xaj w (.cells #[.int .i64 0,.int .i64 0] 27);have h1:=h.later hb0;obtain⟨a,cap,rfl,hc1,hc2⟩:=h.stack.form;obtain⟨m,hm⟩:∃ m,f.stack.length=m+1:=⟨f.stack.length-1,by omega⟩
 have HT:Hid (f.top=f.stack[m]'(by omega)):=by
  show _=_
  unfold Fr.top xaW xaM;rw[if_neg (by omega)]
  simp[hm]
 have hx:f.stack[m]?=some f.top:=by rw[HT.out];simp
 have hv:=h1.stack.vals (by omega)
 obtain⟨a',cap',e',-,-,-,hrow⟩:=hv
 cases e'
 obtain⟨b,o,rfl,hbo,y0,y1⟩:=hrow m f.top hx;simp only[Nat.add_zero] at y0;have c0:=h1.st;have HC:=hid (fun (w':World) k hb=>h.cut (n:=m) (w':=w') (by omega) k hb)
 have HK:=hid h.t4;have HP:Hid (f.pop={ f with stack:=f.stack.take m }):=by show _=_;unfold Fr.pop;rw[List.dropLast_eq_take,hm];rfl
 have HB1:=hid hb1;have hsf:=(h.later hb1).sf;have hst:=(h.later hb1).st;have HSB0:=hid (h.later hb1).sb;rw[hm] at c0 hst;have hwm:IntKind.i64.wrap (((m+1:Nat):Int)-1)=(m:Int):=by rw[xaE (by omega) (by omega)];omega
 unfold maxLen at hc2;clear hrow h h1 hfew hx;have s0:=xaa (w.alloc (.cells #[.int .i64 0,.int .i64 0] 27)) #[.int .i64 f.top.k,.int .i64 f.top.n] 27 (w.heap.size+1) (by simp) 0
 have s1:=xaa (w.alloc (.cells #[.int .i64 0,.int .i64 0] 27)) #[.int .i64 f.top.k,.int .i64 f.top.n] 27 (w.heap.size+1) (by simp) 1
 have r0:=qzA (xaj (w.alloc (.cells #[.int .i64 0,.int .i64 0] 27)) (.cells #[.int .i64 f.top.k,.int .i64 f.top.n] 27)) (show (w.alloc (.cells #[.int .i64 0,.int .i64 0] 27)).cell? ⟨w.heap.size,0,none⟩=some (.int .i64 0) from xaa _ _ _ _ rfl 0)
 have r1:=qzA (xaj (w.alloc (.cells #[.int .i64 0,.int .i64 0] 27)) (.cells #[.int .i64 f.top.k,.int .i64 f.top.n] 27)) (show (w.alloc (.cells #[.int .i64 0,.int .i64 0] 27)).cell? ⟨w.heap.size,1,none⟩=some (.int .i64 0) from xaa _ _ _ _ rfl 1)
 have rf:∀ o,((w.alloc (.cells #[.int .i64 0,.int .i64 0] 27)).alloc (.cells #[.int .i64 f.top.k,.int .i64 f.top.n] 27)).frozen? ⟨w.heap.size,o,none⟩=false:=fun o=>((xaj _ _).frozen (p:=⟨w.heap.size,o,none⟩) (by simp)).trans (xam (qzJ w (.cells #[.int .i64 0,.int .i64 0] 27)) o)
 go_enter Tryz.func68,Tryz.ntmps68
 go_upto_region 2 with (fail)
 generalize ((w.alloc (.cells #[.int .i64 0,.int .i64 0] 27)).alloc (.cells #[.int .i64 f.top.k,.int .i64 f.top.n] 27))=W at *;have n1:¬ B+4=w.heap.size:=by omega
 have n2:¬ w.heap.size=B+4:=by omega
 have n3:¬ B+4=w.heap.size+1:=by omega
 have n4:¬ w.heap.size+1=B+4:=by omega
 simp at s0 s1
 have HSB:Hid (W.heap[B+4]?=some (.cells #[.slice (some ⟨b,o,none⟩) (m+1) cap] 28 (0,0))):=by show _=_;rw[← hm];exact HSB0.out
 go_wp2
 have hk:Kp (fun t=>t=K) T w (((W.setCell ⟨B+4,0,none⟩ (.slice (some ⟨b,o,none⟩) m cap)).setCell ⟨w.heap.size,0,none⟩ (.int .i64 f.top.k)).setCell ⟨w.heap.size,1,none⟩ (.int .i64 f.top.n)):=
  (((Kp.of_below HB1.out).set (fun _=>HK.out) _ _).set (fun h=>absurd h (Nat.lt_irrefl _)) _ _).set (fun h=>absurd h (Nat.lt_irrefl _)) _ _
 have hf:=HC.out _ hk (by rw[xab (by omega),xab (by omega)];exact xkK HSB.out _)
 refine qzK (v:=VV f.top) ?_ rfl ⟨rfl,⟨_,by rw[HP.out];exact hf⟩,hk.mono fun t h=>Or.inl h⟩
 simp[results,Tryz.results68,go_sem,r0,r1,n1,n2]
end
theorem xe4 {α:Type}{E:Lay α}{sz bytes:Nat}(G:Good E sz){t:TypeId}{Q:Nat->Prop}{B n k:Nat}{a:Option Addr}{w:World}{cs:List Value}{xs:List α}(hown:w.ownsRow B t sz (.slice a n k) n cs)(hc:Cells E sz Q w cs xs)(hn:xs.length=n)(hQ:∀ b,B<=b->b<w.heap.size->Q b)(hby:n*bytes<=140737488351232):IsRow E sz bytes Q w (.slice a n k) xs:=by
 obtain⟨-,⟨e,h0⟩ | ⟨g,c,cur,e,h1,h2,h3,h4,h5,h6⟩⟩:=hown
 ·cases e
  obtain rfl:=List.eq_nil_of_length_eq_zero hn
  exact xbG
 ·cases e
  subst hn
  exact hc.row G (hQ _ h1 (xaf h2)) h2 h6 h3 h4 hby
theorem xdK {t:TypeId}{B sz n k g:Nat}{w:World}{cs:List Value}(hown:w.ownsRow B t sz (.slice (some ⟨g,0,none⟩) n k) n cs){j:Nat}{u:Value}(hj:cs[j]?=some u):w.cell? ⟨g,j,none⟩=some u:=by
 obtain⟨-,⟨e,h0⟩ | ⟨g',c,cur,e,h1,h2,h3,h4,h5,h6⟩⟩:=hown
 ·cases e
 ·cases e
  rw[qzB h2];rw[← h6,List.getElem?_take] at hj
  split at hj
  ·simpa using hj
  ·cases hj
theorem xeJ {t:TypeId}{B sz n k g:Nat}{w:World}{cs:List Value}(hown:w.ownsRow B t sz (.slice (some ⟨g,0,none⟩) n k) n cs)(j:Nat):w.frozen? ⟨g,j,none⟩=false:=by
 obtain⟨-,⟨e,h0⟩ | ⟨g',c,cur,e,h1,h2,h3,h4,h5,h6⟩⟩:=hown
 ·cases e
 ·cases e
  unfold World.frozen?;simp[h2]
theorem Cells.setAt {α:Type}{E:Lay α}{sz:Nat}{P:Nat->Prop}{w:World}{cs cs':List Value}{xs:List α}(h:Cells E sz P w cs xs)(G:Good E sz){q:Nat}{y:α}(hq:q<xs.length)(hl:cs'.length=cs.length)(hk:∀ j,(j<q*sz\/(q+1)*sz<=j)->cs'[j]?=cs[j]?)(hy:E P w (fun k=>cs'[q*sz+k]?) y):Cells E sz P w cs' (xs.set q y):=by
 refine⟨by rw[hl,h.1,List.length_set],fun i x hx=>?_⟩
 by_cases hi:i=q
 ·subst hi;rw[List.getElem?_set_self hq] at hx
  cases hx
  exact hy
 ·rw[List.getElem?_set_ne (Ne.symm hi)] at hx;refine G.move (h.2 i x hx) (fun _ h=>h) (.refl _ _) fun k hk' v hv=>?_
  rw[hk]
  ·exact hv
  ·rcases Nat.lt_or_gt_of_ne hi with h' | h'
   ·left
    have:(i+1)*sz<=q*sz:=Nat.mul_le_mul_right _ h';rw[Nat.add_mul] at this
    omega
   ·right
    have:(q+1)*sz<=i*sz:=Nat.mul_le_mul_right _ h'
    omega
theorem xhA {w:World}{a:Option Addr}{cap:Nat}{P:Nat->Prop}{hs:List QO}(h:xaC P w (.slice a hs.length cap) hs):∃ cs,Cells xlt 2 P w cs hs/\∀ j u,cs[j]?=some u->∃ b,a=some b/\w.cell? (b.add j)=some u:=by
 obtain⟨a',cap',e,-,-,-,hrow⟩:=h
 cases e
 exact hrow.cells xaD
theorem xfN {h:List QO}{v:QV}{j:Nat}{o:QO}(hk:v.k=4)(hn:v.n=(j:Int))(ho:h[j]?=some o)(n:Nat)(x:QV):xaR h v n x=h.set j ⟨o.cls,o.slots.set n x⟩:=by
 unfold xaR xdt;rw[if_pos ⟨hk,by omega⟩,hn]
 simp[ho,xaV,show ¬ (n:Int)<0 by omega]
theorem xhY {h:List QO}{v:QV}{j:Nat}{o:QO}(hk:v.k=4)(hn:v.n=(j:Int))(ho:h[j]?=some o)(n:Nat)(hl:o.slots.length<=n)(x:QV):xaR h v n x=h:=by
 rw[xfN hk hn ho,List.set_eq_of_length_le hl];have:=xae ho;rw[List.getElem?_eq_getElem this] at ho
 cases ho
 exact List.set_getElem_self _
theorem xg4 {h:List QO}{v:QV}(n:Int)(x:QV)(hv:xdt h v=none):xaR h v n x=h:=by unfold xaR;rw[hv]
section
variable {p:Rp} {T T':Nat->Nat} {w w':World} {mb:Nat} {m m':Mc RSt} {deep err deep' err':Int} {hv sv ov:Value}
theorem xl1 {a:Option Addr}{cap g cap' g2 cap2 j n B1 B2:Nat}{o:QO}{x:QV}{w1 w2:World}{cs:List Value}(h:RMac p T w mb m deep err (.slice a m.heap.length cap) sv ov)(hcs:Cells xlt 2 (Fx T w) w cs m.heap)
  (hb1:Below w.heap.size w w1) (hown:w1.ownsRow B1 64 2 (.slice (some ⟨g,0,none⟩) m.heap.length cap') m.heap.length cs) (hB1:w.heap.size<=B1) (hb2:Below w1.heap.size w1 w2) (hown2:w2.ownsRow B2 27 2 (.slice (some ⟨g2,0,none⟩) o.slots.length cap2) o.slots.length (xal o.slots)) (hB2:w1.heap.size<=B2)
  (ho:m.heap[j]?=some o) (hn:n<o.slots.length) (hs:o.slots.length*16<=140737488351232) (hl:m.heap.length<=1000) :
  RMac p (xau T w 0) ((((w2.setCell ⟨g2,n*2,none⟩ (.int .i64 x.k)).setCell ⟨g2,n*2+1,none⟩ (.int .i64 x.n)).setCell ⟨g,j*2+1,none⟩ (.slice (some ⟨g2,0,none⟩) o.slots.length cap2)).setCell ⟨mb,1,none⟩ (.slice (some ⟨g,0,none⟩) m.heap.length cap')) mb { m with heap:=m.heap.set j ⟨o.cls,o.slots.set n x⟩ } deep err (.slice (some ⟨g,0,none⟩) m.heap.length cap') sv ov/\
   Kp (fun t=>t=1) T w ((((w2.setCell ⟨g2,n*2,none⟩ (.int .i64 x.k)).setCell ⟨g2,n*2+1,none⟩ (.int .i64 x.n)).setCell ⟨g,j*2+1,none⟩ (.slice (some ⟨g2,0,none⟩) o.slots.length cap2)).setCell ⟨mb,1,none⟩ (.slice (some ⟨g,0,none⟩) m.heap.length cap')):=by
 have hj:=xae ho;have hlm:=xaf h.box;obtain⟨hg1,hg2'⟩:=hown.lt g rfl;obtain⟨hg3,hg4⟩:=hown2.lt g2 rfl;have hz:=hb1.size;have hz2:=hb2.size;have hbw:=xah hb1 hb2
 have k:Kp (fun t=>t=1) T w ((((w2.setCell ⟨g2,n*2,none⟩ (.int .i64 x.k)).setCell ⟨g2,n*2+1,none⟩ (.int .i64 x.n)).setCell ⟨g,j*2+1,none⟩ (.slice (some ⟨g2,0,none⟩) o.slots.length cap2)).setCell ⟨mb,1,none⟩ (.slice (some ⟨g,0,none⟩) m.heap.length cap')):=
  ((((Kp.of_below hbw).set (fun h=>by omega) _ _).set (fun h=>by omega) _ _).set (fun h=>by omega) _ _).set (fun _=>h.tag) _ _
 have hex:=xao T w 0;refine⟨?_,k⟩
 have hgrow:w2.ownsRow B1 64 2 (.slice (some ⟨g,0,none⟩) m.heap.length cap') m.heap.length cs:=by
  obtain⟨h0,h1 | ⟨g',c,cur,e,h1,h2,h3⟩⟩:=hown
  ·cases h1.1
  ·exact⟨h0,Or.inr ⟨g',c,cur,e,h1,by rw[hb2.block _ (xaf h2)];exact h2,h3⟩⟩
 have e1:=(hown2.stored (n*2) (.int .i64 x.k)).1;have e2:=(e1.stored (n*2+1) (.int .i64 x.n)).1;rw[xef] at e2;have e3:=ownsRow_setCell_other (ownsRow_setCell_other e2 (a:=⟨g,j*2+1,none⟩) (by simp[Value.ownBlock];omega) (.slice (some ⟨g2,0,none⟩) o.slots.length cap2)) (a:=⟨mb,1,none⟩) (by simp[Value.ownBlock];omega) (.slice (some ⟨g,0,none⟩) m.heap.length cap')
 have f1:=ownsRow_setCell_other (ownsRow_setCell_other hgrow (a:=⟨g2,n*2,none⟩) (by simp[Value.ownBlock];omega) (.int .i64 x.k)) (a:=⟨g2,n*2+1,none⟩) (by simp[Value.ownBlock];omega) (.int .i64 x.n)
 have f2:=(f1.stored (j*2+1) (.slice (some ⟨g2,0,none⟩) o.slots.length cap2)).1;have f3:=ownsRow_setCell_other f2 (a:=⟨mb,1,none⟩) (by simp[Value.ownBlock];omega) (.slice (some ⟨g,0,none⟩) m.heap.length cap')
 have hbox:w2.heap[mb]?=some (RB p m deep err (.slice a m.heap.length cap) sv ov):=xac h.box hbw;generalize hU:((((w2.setCell ⟨g2,n*2,none⟩ (.int .i64 x.k)).setCell ⟨g2,n*2+1,none⟩ (.int .i64 x.n)).setCell ⟨g,j*2+1,none⟩ (.slice (some ⟨g2,0,none⟩) o.slots.length cap2)).setCell ⟨mb,1,none⟩ (.slice (some ⟨g,0,none⟩) m.heap.length cap'))=U at *;have hUz:w2.heap.size<=U.heap.size:=by rw[← hU];simp
 have hsz:w.heap.size<=U.heap.size:=by omega
 have hall:∀ b,w.heap.size<=b->b<U.heap.size->Fx (xau T w 0) U b:=fun b h1 h2=>⟨h2,xav h1⟩
 have hv2:xaB (Fx (xau T w 0) U) U (.slice (some ⟨g2,0,none⟩) o.slots.length cap2) (o.slots.set n x):=by
  have hc:Cells xmM 2 (Fx (xau T w 0) U) U (xal (o.slots.set n x)) (o.slots.set n x):=⟨xbm _,fun i y hy=>by
   obtain⟨d1,d2⟩:=xbO hy
   exact⟨by simpa using d1,d2⟩⟩
  exact xe4 xaK e3 hc (by simp) (fun b h1 h2=>hall b (by omega) h2) hs
 have hc0:Cells xlt 2 (Fx (xau T w 0) U) U cs m.heap:=hcs.keep xaD (Keeps.of_block fun b hb hl=>k.blk b hl (by rw[hb.2];omega)) fun b hb=>⟨by omega,by rw[hex b hb.1];exact hb.2⟩
 have hcl:=hc0.1
 have hc1:Cells xlt 2 (Fx (xau T w 0) U) U (cs.set (j*2+1) (.slice (some ⟨g2,0,none⟩) o.slots.length cap2)) (m.heap.set j ⟨o.cls,o.slots.set n x⟩):=by
  refine hc0.setAt xaD hj (by simp) (fun i hi=>?_) ?_
  ·rw[List.getElem?_set_ne (by omega)]
  ·obtain⟨d1,-⟩:=hc0.2 j o ho
   exact⟨by show (cs.set _ _)[j*2+0]?=_;rw[List.getElem?_set_ne (by omega)];exact d1,_,by show (cs.set _ _)[j*2+1]?=_;rw[List.getElem?_set_self (by omega)],hv2⟩
 have hb':U.heap[mb]?=some (RB p { m with heap:=m.heap.set j ⟨o.cls,o.slots.set n x⟩ } deep err (.slice (some ⟨g,0,none⟩) m.heap.length cap') sv ov):=by
  rw[← hU];refine xj1 (hv:=.slice a m.heap.length cap) ?_ _ _;rw[xab (by omega),xab (by omega),xab (by omega)]
  exact hbox
 have hs1:=h.sites.keep (w':=U) fun b hg=>k.blk b (h.sites.lt b hg).2 (by rw[h.stag b hg];omega)
 have ho1:=h.of.keep (w':=U) fun b hg=>k.blk b (h.of.lt b hg).2 (by rw[h.otag b hg];omega)
 exact⟨hb',by rw[hex _ hlm];exact h.tag,h.cls.fx xaz hex k (by omega),xe4 xaD f3 hc1 (by simp) (fun b h1 h2=>hall b (by omega) h2) (by omega),hs1,fun b hg=>by rw[hex _ (h.sites.lt b hg).2];exact h.stag b hg,ho1,fun b hg=>by rw[hex _ (h.of.lt b hg).2];exact h.otag b hg⟩
def xoD (p:Rp)(T:Nat->Nat)(w:World)(mb:Nat)(m:Mc RSt)(deep err:Int)(sv ov:Value)(e:Ending)(w':World):Prop:=
 e=.returned (.tuple #[])/\(∃ T' hv',Ext T T' w/\RMac p T' w' mb m deep err hv' sv ov)/\Kp (fun t=>t=1) T w w'
theorem xlH (h:RMac p T w mb m deep err hv sv ov)(v:QV)(n:Nat)(x:QV)(hw:xas m.heap.length v=0)(hl:m.heap.length<=1000):Calls Tryz.prog 70 #[.pointer (some ⟨mb,0,none⟩),VV v,.int .i64 (n:Int),VV x] w fun e w'=>xoD p T w mb { m with heap:=xaR m.heap v n x } deep err sv ov e w':=by
 have hlm:=xaf h.box;have hb1:=xca w (.cells #[.int .i64 v.k,.int .i64 v.n] 27) (.cells #[.int .i64 x.k,.int .i64 x.n] 27);obtain⟨a,cap,rfl,hl1,hcap,-,-⟩:=id h.heap;unfold maxLen at hcap;obtain⟨cs,hcs,hsrc⟩:=xhA h.heap;have a0:=qzA (xaj _ (.cells #[.int .i64 x.k,.int .i64 x.n] 27)) (show (w.alloc (.cells #[.int .i64 v.k,.int .i64 v.n] 27)).cell? ⟨w.heap.size,0,none⟩=some (.int .i64 v.k) from xaa _ _ _ _ rfl 0)
 have a1:=qzA (xaj _ (.cells #[.int .i64 x.k,.int .i64 x.n] 27)) (show (w.alloc (.cells #[.int .i64 v.k,.int .i64 v.n] 27)).cell? ⟨w.heap.size,1,none⟩=some (.int .i64 v.n) from xaa _ _ _ _ rfl 1)
 have x0:=xaa (w.alloc (.cells #[.int .i64 v.k,.int .i64 v.n] 27)) #[.int .i64 x.k,.int .i64 x.n] 27 (w.heap.size+1) (by simp) 0
 have x1:=xaa (w.alloc (.cells #[.int .i64 v.k,.int .i64 v.n] 27)) #[.int .i64 x.k,.int .i64 x.n] 27 (w.heap.size+1) (by simp) 1
 have h1:=h.later hb1;have HH:=hid h;have hz1:w.heap.size+2<=((w.alloc (.cells #[.int .i64 v.k,.int .i64 v.n] 27)).alloc (.cells #[.int .i64 x.k,.int .i64 x.n] 27)).heap.size:=by simp
 go_enter Tryz.func70,Tryz.ntmps70
 go_upto_region 1 with (fail)
 generalize ((w.alloc (.cells #[.int .i64 v.k,.int .i64 v.n] 27)).alloc (.cells #[.int .i64 x.k,.int .i64 x.n] 27))=W at *
 simp at x0 x1
 have c1:=qzA (xaj W (.cells #[] 64)) h1.c1;have hlen:=hcs.1
 go_upto_region 2 with (at_builtin;refine xa4 rfl (.tmp 10) (.tmp 15) 23 64 _ 2 32 rfl Tryz.underlying23 xgX rfl (by omega) (by omega) W.heap.size rfl (qzJ _ _) a m.heap.length cap rfl cs hlen (fun j u hj=>by obtain⟨b,e,h⟩:=hsrc j u hj;exact⟨b,e,qzA (xah hb1 (xaj _ _)) h⟩) (by omega) ?_;intro g cap' w1 hown hg hgl hbA)
 have hbB:Below W.heap.size W w1:=xbz (qzL _ _) hbA;have hbw:=xah hb1 hbB;replace a0:=qzA hbB a0;replace a1:=qzA hbB a1;replace x0:=qzA hbB x0;replace x1:=qzA hbB x1;replace h1:=h1.later hbB
 have hgW:W.heap.size<=g:=by
  rcases hg with h | h
  ·omega
  ·have hh:=h
   simp at hh;omega
 have hz2:=hbB.size;clear hbA hg c1 hb1 hbB
 have hend:xaR m.heap v n x=m.heap->(∃ T' hv',Ext T T' w/\RMac p T' w1 mb { m with heap:=xaR m.heap v n x } deep err hv' sv ov)/\Kp (fun t=>t=1) T w w1:=fun e=>by
  rw[e];exact⟨⟨T,_,.refl _ _,h1⟩,Kp.of_below hbw⟩
 have HE:=hid hend;clear hend
 by_cases hk:v.k=4
 ·obtain⟨j,hj,hjl⟩:∃ j:Nat,v.n=(j:Int)/\j<m.heap.length:=by
   unfold xas xch at hw;rw[hk] at hw;refine⟨v.n.toNat,?_,?_⟩<;>(simp at hw;omega)
  have ho:m.heap[j]?=some m.heap[j]:=by simp[hjl]
  have HO:=hid ho;generalize m.heap[j]=o at *;obtain⟨d0,sl,d1,hsl⟩:=hcs.2 j o ho;obtain⟨asl,csl,rfl,hl2,hc2,hby2,hrs⟩:=id hsl;have u1:w1.cell? ⟨g,j*2+1,none⟩=some (.slice asl o.slots.length csl):=xdK hown d1;have uf:=xeJ hown;have hj1:(j:Int)<(m.heap.length:Int):=by omega
  have hj0:(0:Int)<=(j:Int):=by omega
  have hkk:(v.k == 4)=true:=by simpa using hk
  rw[hj] at a1;rw[hk] at a0;unfold maxLen at hc2;have HKN:=hid (And.intro hk hj);clear hk hj hkk d0 d1 ho hw
  by_cases hn:n<o.slots.length
  ·have hn1:(n:Int)<(o.slots.length:Int):=by omega
   have hn0:(0:Int)<=(n:Int):=by omega
   have HS:Hid (xaR m.heap v n x=m.heap.set j ⟨o.cls,o.slots.set n x⟩):=xfN HKN.out.1 HKN.out.2 HO.out n x;obtain⟨vs,hvs,hvsrc⟩:=hrs.cells xaK;have hvc:=xco (E:=()) hvs;subst hvc;have hvl:=hvs.1;have HV:=hid hvsrc;clear hvsrc hvs hrs HE;have HOW:=hid hown;clear hown;have u1a:=qzA (xaj w1 (.cells #[] 27)) u1;have a1a:=qzA (xaj w1 (.cells #[] 27)) a1
   go_upto_region 4 with (at_builtin;refine xa4 rfl (.tmp 38) (.tmp 44) 28 27 _ 2 16 rfl Tryz.underlying28 xbW rfl (by omega) (by omega) w1.heap.size rfl (qzJ _ _) asl o.slots.length csl rfl (xal o.slots) hvl (fun j u hj=>by obtain⟨b,e,h⟩:=HV.out j u hj;exact⟨b,e,qzA (xah hbw (xaj _ _)) h⟩) hby2 ?_;intro g2 cap2 w2 hown2 hg2 hgl2 hbA)
   have hbB:Below w1.heap.size w1 w2:=xbz (qzL _ _) hbA
   have hgW2:w1.heap.size<=g2:=by
    rcases hg2 with h | h
    ·omega
    ·have hh:=h
     simp at hh;omega
   obtain⟨f1,f2⟩:=xl1 (x:=x) HH.out hcs hbw HOW.out (by omega) hbB hown2 (qzC _) HO.out hn hby2 hl
   have F1:=hid f1;have F2:=hid f2;clear f1 f2;replace a1:=qzA hbB a1;replace x0:=qzA hbB x0;replace x1:=qzA hbB x1;obtain⟨z0,z1⟩:=xbO (show o.slots[n]?=some o.slots[n] by simp[hn])
   have y0:=xdK hown2 z0;have y1:=xdK hown2 z1;have yf:=xeJ hown2;have u1':=qzA hbB u1;have uf':∀ o,w2.frozen? ⟨g,o,none⟩=false:=fun o=>(hbB.frozen (p:=⟨g,o,none⟩) hgl).trans (uf o)
   have m1:=(h1.later hbB).c1;have mf:=xam (h1.later hbB).box;have hmw:mb<w1.heap.size:=xaf h1.box;have q1:¬ g2=g:=by omega
   have q2:¬ g=g2:=by omega
   have q3:¬ g2=mb:=by omega
   have q4:¬ mb=g2:=by omega
   have q5:¬ g=mb:=by omega
   have q6:¬ mb=g:=by omega
   have q7:¬ g2=w.heap.size:=by omega
   have q8:¬ w.heap.size=g2:=by omega
   have q9:¬ g2=w.heap.size+1:=by omega
   have q10:¬ w.heap.size+1=g2:=by omega
   have q11:¬ g=w.heap.size:=by omega
   have q12:¬ w.heap.size=g:=by omega
   clear hbA hg2 hown2 u1 uf z0 z1 h1 u1a a1a;go_wp2;rw[HS.out]
   exact bodyPost_end (v:=.tuple #[]) (by simp[results,Tryz.results70,go_sem]) rfl ⟨rfl,⟨_,_,xao T w 0,F1.out⟩,F2.out⟩
  ·have hn1:¬ (n:Int)<(o.slots.length:Int):=by omega
   have hn2:(o.slots.length:Int)<=(n:Int):=by omega
   have hn3:o.slots.length<=n:=by omega
   have HS:=hid (HE.out (xhY HKN.out.1 HKN.out.2 HO.out n (by omega) x))
   clear hn HE;go_wp2
   exact bodyPost_end (v:=.tuple #[]) (by simp[results,Tryz.results70,go_sem]) rfl ⟨rfl,HS.out.1,HS.out.2⟩
 ·have hkk:(v.k == 4)=false:=by simpa using hk
  have HS:=hid (HE.out (xg4 n x (by unfold xdt;rw[if_neg (by omega)])))
  clear hk HE hw;go_wp2
  exact bodyPost_end (v:=.tuple #[]) (by simp[results,Tryz.results70,go_sem]) rfl ⟨rfl,HS.out.1,HS.out.2⟩
end
end Go.Proofs.YtapbeiccodnniaaGreat
