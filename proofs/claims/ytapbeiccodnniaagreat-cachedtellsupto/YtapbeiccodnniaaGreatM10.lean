/- A part. -/
import Derived.Test.YtapbeiccodnniaaGreatM9
import Derived.OneCell
import Derived.Laws.OwnMore
namespace Go.Proofs.YtapbeiccodnniaaGreat
open Go.ChangeShapes Go.WideShapes Go.ChangeAt Go.RowKit
set_option linter.unusedSimpArgs false
set_option linter.unusedVariables false
set_option maxHeartbeats 8000000
set_option maxRecDepth 8000
abbrev RSt:=List (QS × Int)
def xcK (X:QW)(fuel:Int):Env RSt:=⟨X.cz,fuel,fun l s c name=>(l++[(s,c)],xaw X.cz c name),xfk⟩
def xcG:RSt->List Value
 | []=>[]
 | p :: r=>.int .i64 p.1.cls :: .string p.1.name :: .int .i64 p.1.at' :: xcG r
def xcw:RSt->List Value
 | []=>[]
 | p :: r=>.int .i64 p.2 :: xcw r
theorem xdP:∀ q r,xcG (q++r)=xcG q++xcG r
 | [],r=>rfl
 | p :: q,r=>by simp[xcG,xdP q r]
theorem xd4:∀ q r,xcw (q++r)=xcw q++xcw r
 | [],r=>rfl
 | p :: q,r=>by simp[xcw,xd4 q r]
structure Rp where
 X:QW
 fuel:Int
 cv:Value
abbrev RB (p:Rp)(m:Mc RSt)(deep err:Int)(hv sv ov:Value):Obj:=.cells #[p.cv,hv,.int .i64 p.X.ez,.int .i64 p.fuel,.int .i64 m.sz_,.int .i64 m.turns,.int .i64 deep,.int .i64 err,sv,ov] 89 (0,0)
structure RMac (p:Rp)(T:Nat->Nat)(w:World)(mb:Nat)(m:Mc RSt)(deep err:Int)(hv sv ov:Value):Prop where
 box:w.heap[mb]?=some (RB p m deep err hv sv ov)
 tag:T mb=1
 cls:xai (Fx T w) w p.cv p.X.cz
 heap:xaC (Fx T w) w hv m.heap
 sites:ownsAt w 0 67 3 sv m.st.length (xcG m.st)
 stag:∀ g,sv.ownBlock=some g->T g=2
 of:ownsAt w 0 3 1 ov m.st.length (xcw m.st)
 otag:∀ g,ov.ownBlock=some g->T g=3
section
variable {p:Rp} {T T':Nat->Nat} {w w':World} {mb:Nat} {m m':Mc RSt} {deep err deep' err':Int} {hv sv ov:Value}
theorem RMac.keep {S:Nat->Prop}(h:RMac p T w mb m deep err hv sv ov)(e:Ext T T' w)(k:Kp S T w w')(h0:¬ S 0)(h1:¬ S 1)(h2:¬ S 2)(h3:¬ S 3):RMac p T' w' mb m deep err hv sv ov:=
 ⟨k.held h.box (by rw[h.tag];exact h1),by rw[e _ (xaf h.box)];exact h.tag,h.cls.fx xaz e k h0,h.heap.fx xaD e k h0,h.sites.keep fun g hg=>k.blk g (h.sites.lt g hg).2 (by rw[h.stag g hg];exact h2),fun g hg=>by rw[e _ (h.sites.lt g hg).2];exact h.stag g hg,h.of.keep fun g hg=>k.blk g (h.of.lt g hg).2 (by rw[h.otag g hg];exact h3),fun g hg=>by rw[e _ (h.of.lt g hg).2];exact h.otag g hg⟩
theorem RMac.later (h:RMac p T w mb m deep err hv sv ov)(hb:Below w.heap.size w w'):RMac p T w' mb m deep err hv sv ov:=h.keep (S:=fun _=>False) (.refl _ _) (.of_below hb) id id id id
theorem RMac.turn (h:RMac p T w mb m deep err hv sv ov)(k:Kp (fun t=>t=1) T w w')(hb:w'.heap[mb]?=some (RB p m' deep' err' hv sv ov))(e:m'.heap=m.heap)(e2:m'.st=m.st):RMac p T w' mb m' deep' err' hv sv ov:=by
 refine⟨hb,h.tag,h.cls.fx xaz (.refl _ _) k (by omega),by rw[e];exact h.heap.fx xaD (.refl _ _) k (by omega),?_,h.stag,?_,h.otag⟩
 ·rw[e2];exact h.sites.keep fun g hg=>k.blk g (h.sites.lt g hg).2 (by rw[h.stag g hg];omega)
 ·rw[e2];exact h.of.keep fun g hg=>k.blk g (h.of.lt g hg).2 (by rw[h.otag g hg];omega)
theorem RMac.c0 (h:RMac p T w mb m deep err hv sv ov):w.cell? ⟨mb,0,none⟩=some p.cv:=by rw[qzB h.box];rfl
theorem RMac.c1 (h:RMac p T w mb m deep err hv sv ov):w.cell? ⟨mb,1,none⟩=some hv:=by rw[qzB h.box];rfl
theorem RMac.c2 (h:RMac p T w mb m deep err hv sv ov):w.cell? ⟨mb,2,none⟩=some (.int .i64 p.X.ez):=by rw[qzB h.box];rfl
theorem RMac.c3 (h:RMac p T w mb m deep err hv sv ov):w.cell? ⟨mb,3,none⟩=some (.int .i64 p.fuel):=by rw[qzB h.box];rfl
theorem RMac.c4 (h:RMac p T w mb m deep err hv sv ov):w.cell? ⟨mb,4,none⟩=some (.int .i64 m.sz_):=by rw[qzB h.box];rfl
theorem RMac.c5 (h:RMac p T w mb m deep err hv sv ov):w.cell? ⟨mb,5,none⟩=some (.int .i64 m.turns):=by rw[qzB h.box];rfl
theorem RMac.c6 (h:RMac p T w mb m deep err hv sv ov):w.cell? ⟨mb,6,none⟩=some (.int .i64 deep):=by rw[qzB h.box];rfl
theorem RMac.c7 (h:RMac p T w mb m deep err hv sv ov):w.cell? ⟨mb,7,none⟩=some (.int .i64 err):=by rw[qzB h.box];rfl
theorem RMac.c8 (h:RMac p T w mb m deep err hv sv ov):w.cell? ⟨mb,8,none⟩=some sv:=by rw[qzB h.box];rfl
theorem RMac.c9 (h:RMac p T w mb m deep err hv sv ov):w.cell? ⟨mb,9,none⟩=some ov:=by rw[qzB h.box];rfl
theorem xnK (h:w.heap[mb]?=some (RB p m deep err hv sv ov))(n:Int):(w.setCell ⟨mb,4,none⟩ (.int .i64 n)).heap[mb]?=some (RB p { m with sz_:=n } deep err hv sv ov):=by rw[xad h];rfl
theorem xom (h:w.heap[mb]?=some (RB p m deep err hv sv ov))(n:Int):(w.setCell ⟨mb,5,none⟩ (.int .i64 n)).heap[mb]?=some (RB p { m with turns:=n } deep err hv sv ov):=by rw[xad h];rfl
theorem xn2 (h:w.heap[mb]?=some (RB p m deep err hv sv ov))(n:Int):(w.setCell ⟨mb,6,none⟩ (.int .i64 n)).heap[mb]?=some (RB p m n err hv sv ov):=by rw[xad h];rfl
theorem xne (h:w.heap[mb]?=some (RB p m deep err hv sv ov))(n:Int):(w.setCell ⟨mb,7,none⟩ (.int .i64 n)).heap[mb]?=some (RB p m deep n hv sv ov):=by rw[xad h];rfl
theorem xj1 (h:w.heap[mb]?=some (RB p m deep err hv sv ov))(xs:List QO)(hv':Value):(w.setCell ⟨mb,1,none⟩ hv').heap[mb]?=some (RB p { m with heap:=xs } deep err hv' sv ov):=by rw[xad h];rfl
theorem xnH (h:w.heap[mb]?=some (RB p m deep err hv sv ov))(sv':Value):(w.setCell ⟨mb,8,none⟩ sv').heap[mb]?=some (RB p m deep err hv sv' ov):=by rw[xad h];rfl
theorem xnq (h:w.heap[mb]?=some (RB p m deep err hv sv ov))(l:RSt)(ov':Value):(w.setCell ⟨mb,9,none⟩ ov').heap[mb]?=some (RB p { m with st:=l } deep err hv sv ov'):=by rw[xad h];rfl
theorem RMac.num4 (h:RMac p T w mb m deep err hv sv ov)(n:Int):RMac p T (w.setCell ⟨mb,4,none⟩ (.int .i64 n)) mb { m with sz_:=n } deep err hv sv ov:=h.turn ((Kp.refl _ _ _).set (fun _=>h.tag) _ _) (xnK h.box n) rfl rfl
theorem RMac.num5 (h:RMac p T w mb m deep err hv sv ov)(n:Int):RMac p T (w.setCell ⟨mb,5,none⟩ (.int .i64 n)) mb { m with turns:=n } deep err hv sv ov:=h.turn ((Kp.refl _ _ _).set (fun _=>h.tag) _ _) (xom h.box n) rfl rfl
theorem RMac.num6 (h:RMac p T w mb m deep err hv sv ov)(n:Int):RMac p T (w.setCell ⟨mb,6,none⟩ (.int .i64 n)) mb m n err hv sv ov:=h.turn ((Kp.refl _ _ _).set (fun _=>h.tag) _ _) (xn2 h.box n) rfl rfl
theorem RMac.num7 (h:RMac p T w mb m deep err hv sv ov)(n:Int):RMac p T (w.setCell ⟨mb,7,none⟩ (.int .i64 n)) mb m deep n hv sv ov:=h.turn ((Kp.refl _ _ _).set (fun _=>h.tag) _ _) (xne h.box n) rfl rfl
theorem kp1 (h:RMac p T w mb m deep err hv sv ov)(o:Nat)(v:Value):Kp (fun t=>t=1) T w (w.setCell ⟨mb,o,none⟩ v):=(Kp.refl _ _ _).set (fun _=>h.tag) _ _
end
structure RF (T:Nat->Nat)(K:Nat)(w:World)(B:Nat)(f:Fr)(av kv sv:Value):Prop where
 m0:w.heap[B]?=some (.cells #[.string f.meth.name,.int .i64 f.meth.args,.int .i64 f.meth.temps,.int .i64 f.meth.prim,kv] 59 (0,0))
 s0:w.heap[B+1]?=some (.cells #[.int .i64 f.self.k,.int .i64 f.self.n] 27 (0,0))
 tm:w.heap[B+3]?=some (.cells (xal f.temps).toArray 27 (0,0))
 sb:w.heap[B+4]?=some (.cells #[sv] 28 (0,0))
 tB:T B=4
 t1:T (B+1)=4
 t3:T (B+3)=K+1
 t4:T (B+4)=K
 stack:ownsAt w 0 27 2 sv f.stack.length (xal f.stack)
 stag:∀ g,sv.ownBlock=some g->T g=K+2
 few:f.stack.length<=1000000
 args:xaB (Fx T w) w av f.args
 code:xa5 (Fx T w) w kv f.code
 pos:5<=K
section
variable {T T':Nat->Nat} {K:Nat} {w w':World} {B:Nat} {f f':Fr} {av kv sv:Value}
theorem RF.keep {S:Nat->Prop}(h:RF T K w B f av kv sv)(e:Ext T T' w)(k:Kp S T w w')(h0:¬ S 0)(h4:¬ S 4)(hK:¬ S K)(h1:¬ S (K+1))(h2:¬ S (K+2)):RF T' K w' B f av kv sv:=
 ⟨k.held h.m0 (by rw[h.tB];exact h4),k.held h.s0 (by rw[h.t1];exact h4),k.held h.tm (by rw[h.t3];exact h1),k.held h.sb (by rw[h.t4];exact hK),by rw[e _ (xaf h.m0)];exact h.tB,by rw[e _ (xaf h.s0)];exact h.t1,by rw[e _ (xaf h.tm)];exact h.t3,by rw[e _ (xaf h.sb)];exact h.t4,
  h.stack.keep fun g hg=>k.blk g (h.stack.lt g hg).2 (by rw[h.stag g hg];exact h2),fun g hg=>by rw[e _ (h.stack.lt g hg).2];exact h.stag g hg,h.few,h.args.fx xaK e k h0,h.code.fx xbl e k h0,h.pos⟩
theorem RF.later (h:RF T K w B f av kv sv)(hb:Below w.heap.size w w'):RF T K w' B f av kv sv:=h.keep (S:=fun _=>False) (.refl _ _) (.of_below hb) id id id id id
theorem RF.at (h:RF T K w B f av kv sv)(n:Int):RF T K w B { f with pc:=n } av kv sv:=⟨h.m0,h.s0,h.tm,h.sb,h.tB,h.t1,h.t3,h.t4,h.stack,h.stag,h.few,h.args,h.code,h.pos⟩
theorem RF.k0 (h:RF T K w B f av kv sv):w.cell? ⟨B,0,none⟩=some (.string f.meth.name):=by rw[qzB h.m0];rfl
theorem RF.k4 (h:RF T K w B f av kv sv):w.cell? ⟨B,4,none⟩=some kv:=by rw[qzB h.m0];rfl
theorem RF.v0 (h:RF T K w B f av kv sv):w.cell? ⟨B+1,0,none⟩=some (.int .i64 f.self.k):=by rw[qzB h.s0];rfl
theorem RF.v1 (h:RF T K w B f av kv sv):w.cell? ⟨B+1,1,none⟩=some (.int .i64 f.self.n):=by rw[qzB h.s0];rfl
theorem RF.st (h:RF T K w B f av kv sv):w.cell? ⟨B+4,0,none⟩=some sv:=by rw[qzB h.sb];rfl
theorem RF.sf (h:RF T K w B f av kv sv)(o:Nat):w.frozen? ⟨B+4,o,none⟩=false:=xam h.sb o
theorem xkK (h:w.heap[B+4]?=some (.cells #[sv] 28 (0,0)))(sv':Value):(w.setCell ⟨B+4,0,none⟩ sv').heap[B+4]?=some (.cells #[sv'] 28 (0,0)):=by rw[xad h];rfl
theorem RF.stacked {sv':Value}{l:List QV}(h:RF T K w B f av kv sv)(e:Ext T T' w)(k:Kp (fun t=>t=K\/t=K+2) T w w')(hb:w'.heap[B+4]?=some (.cells #[sv'] 28 (0,0)))(ho:ownsAt w' 0 27 2 sv' l.length (xal l))(hg:∀ g,sv'.ownBlock=some g->T' g=K+2)(hl:l.length<=1000000):RF T' K w' B { f with stack:=l } av kv sv':=by
 have hp:=h.pos
 exact⟨k.held h.m0 (by rw[h.tB];omega),k.held h.s0 (by rw[h.t1];omega),k.held h.tm (by rw[h.t3];omega),hb,by rw[e _ (xaf h.m0)];exact h.tB,by rw[e _ (xaf h.s0)];exact h.t1,by rw[e _ (xaf h.tm)];exact h.t3,by rw[e _ (xaf h.sb)];exact h.t4,ho,hg,hl,h.args.fx xaK e k (by omega),h.code.fx xbl e k (by omega),hp⟩
theorem RF.pushed {U:World}{sv':Value}{vs:List QV}(h:RF T K w B f av kv sv)(hU:Below w.heap.size w U)(hn:(f.stack++vs).length<=1000000)
  (r1:ownsAt w' 0 27 2 sv' (f.stack++vs).length (xal f.stack++xal vs)) (r2:sv'.ownBlock=sv.ownBlock\/∃ g,sv'.ownBlock=some g/\U.heap.size<=g) (r3:Below 0 U w') (r4:∀ b,b<U.heap.size->some b≠sv.ownBlock->w'.heap[b]?=U.heap[b]?) :
  (∃ T',Ext T T' w/\RF T' K (w'.setCell ⟨B+4,0,none⟩ sv') B { f with stack:=f.stack++vs } av kv sv')/\Kp (fun t=>t=K\/t=K+2) T w (w'.setCell ⟨B+4,0,none⟩ sv'):=by
 have hlt:=xaf h.sb;have hp:=h.pos
 have kU:Kp (fun t=>t=K\/t=K+2) T w w':=⟨r3.os.trans hU.os,r3.tape.trans hU.tape,r3.output.trans hU.output,qzD hU.size r3.size,fun b hb hs=>by
  rw[r4 b (qzE hb hU.size) (fun e=>hs (Or.inr (h.stag b e.symm))),hU.block b hb]⟩
 have k:=kU.set (b:=B+4) (fun _=>Or.inl h.t4) 0 sv'
 obtain⟨T',hT,hg⟩:∃ T',Ext T T' w/\∀ g,sv'.ownBlock=some g->T' g=K+2:=by
  rcases r2 with e | ⟨g,e,hg⟩
  ·exact⟨T,.refl _ _,fun g hg=>h.stag g (by rw[← e];exact hg)⟩
  ·exact⟨xhE T g (K+2),xd5 (qzD hU.size hg),fun g' h'=>by rw[e] at h';cases h';exact xdv _ _ _⟩
 have hnb:some (B+4)≠sv.ownBlock:=fun e=>by have:=h.stag (B+4) e.symm;rw[h.t4] at this;omega
 have hbx:w'.heap[B+4]?=some (.cells #[sv] 28 (0,0)):=by rw[r4 _ (qzE hlt hU.size) hnb,hU.block _ hlt];exact h.sb
 refine⟨⟨T',hT,h.stacked hT k (xkK hbx sv') ?_ hg hn⟩,k⟩;rw[xck]
 exact r1.keep fun g hg'=>xab (fun e=>by have:=hg g hg';rw[e,hT _ hlt,h.t4] at this;omega) _
theorem RF.cut {a:Option Addr}{cap n:Nat}(h:RF T K w B f av kv (.slice a f.stack.length cap))(hn:n<=f.stack.length)(k:Kp (fun t=>t=K) T w w')(hb:w'.heap[B+4]?=some (.cells #[.slice a n cap] 28 (0,0))):RF T K w' B { f with stack:=f.stack.take n } av kv (.slice a n cap):=by
 have hfew:=h.few;have hl:(f.stack.take n).length=n:=by rw[List.length_take];omega
 have ho:∀ g,(Value.slice a n cap).ownBlock=some g->T g=K+2:=fun g hg=>h.stag g (by cases a<;>exact hg)
 refine h.stacked (.refl _ _) (k.mono fun t h=>Or.inl h) hb ?_ ho (by omega)
 rw[hl];have:=h.stack.take hn
 exact this.keep fun g hg=>k.blk g (this.lt g hg).2 (by rw[ho g hg];omega)
theorem RF.temped (h:RF T K w B f av kv sv)(j:Nat)(v:QV):RF T K ((w.setCell ⟨B+3,j*2,none⟩ (.int .i64 v.k)).setCell ⟨B+3,j*2+1,none⟩ (.int .i64 v.n)) B { f with temps:=f.temps.set j v } av kv sv/\Kp (fun t=>t=K+1) T w ((w.setCell ⟨B+3,j*2,none⟩ (.int .i64 v.k)).setCell ⟨B+3,j*2+1,none⟩ (.int .i64 v.n)):=by
 have hp:=h.pos;have k:Kp (fun t=>t=K+1) T w ((w.setCell ⟨B+3,j*2,none⟩ (.int .i64 v.k)).setCell ⟨B+3,j*2+1,none⟩ (.int .i64 v.n)):=((Kp.refl (fun t=>t=K+1) T w).set (b:=B+3) (fun _=>h.t3) _ _).set (b:=B+3) (fun _=>h.t3) _ _
 exact⟨⟨k.held h.m0 (by rw[h.tB];omega),k.held h.s0 (by rw[h.t1];omega),xiC h.tm j v,k.held h.sb (by rw[h.t4];omega),h.tB,h.t1,h.t3,h.t4,h.stack.keep fun g hg=>k.blk g (h.stack.lt g hg).2 (by rw[h.stag g hg];omega),h.stag,h.few,h.args.fx xaK (.refl _ _) k (by omega),h.code.fx xbl (.refl _ _) k (by omega),hp⟩,k⟩
theorem xem (h:RF T K w B f av kv sv)(hn:0<f.stack.length):Calls Tryz.prog 68 #[.pointer (some ⟨B+4,0,none⟩)] w fun e w'=>e=.returned (VV f.top)/\(∃ sv',RF T K w' B f.pop av kv sv')/\Kp (fun t=>t=K\/t=K+2) T w w':=by
 have hlt:=xaf h.sb;have hfew:=h.few;have hb1:=xca w (.cells #[.int .i64 0,.int .i64 0] 27) (.cells #[.int .i64 f.top.k,.int .i64 f.top.n] 27);have hb0:=xaj w (.cells #[.int .i64 0,.int .i64 0] 27);have h1:=h.later hb0;obtain⟨a,cap,rfl,hc1,hc2⟩:=h.stack.form;obtain⟨m,hm⟩:∃ m,f.stack.length=m+1:=⟨f.stack.length-1,by omega⟩
 have HT:Hid (f.top=f.stack[m]'(by omega)):=by
  show _=_
  unfold Fr.top xaW xaM;rw[if_neg (by omega)]
  simp[hm]
 have hx:f.stack[m]?=some f.top:=by rw[HT.out];simp
 have hv:=h1.stack.vals (by omega)
 obtain⟨a',cap',e',-,-,-,hrow⟩:=hv
 cases e'
 obtain⟨b,o,rfl,hbo,y0,y1⟩:=hrow m f.top hx;simp only[Nat.add_zero] at y0;have c0:=h1.st;have HC:=hid (fun (w':World) k hb=>h.cut (n:=m) (w':=w') (by omega) k hb)
 have HK:=hid h.t4;have HP:Hid (f.pop={ f with stack:=f.stack.take m }):=by show _=_;unfold Fr.pop;rw[List.dropLast_eq_take,hm];rfl
 have HB1:=hid hb1;have hsf:=(h.later hb1).sf;have hst:=(h.later hb1).st;have HSB0:=hid (h.later hb1).sb;rw[hm] at c0 hst;have hwm:IntKind.i64.wrap (((m+1:Nat):Int)-1)=(m:Int):=by rw[xaE (by omega) (by omega)];omega
 unfold maxLen at hc2;clear hrow h h1 hfew hx;have s0:=xaa (w.alloc (.cells #[.int .i64 0,.int .i64 0] 27)) #[.int .i64 f.top.k,.int .i64 f.top.n] 27 (w.heap.size+1) (by simp) 0
 have s1:=xaa (w.alloc (.cells #[.int .i64 0,.int .i64 0] 27)) #[.int .i64 f.top.k,.int .i64 f.top.n] 27 (w.heap.size+1) (by simp) 1
 have r0:=qzA (xaj (w.alloc (.cells #[.int .i64 0,.int .i64 0] 27)) (.cells #[.int .i64 f.top.k,.int .i64 f.top.n] 27)) (show (w.alloc (.cells #[.int .i64 0,.int .i64 0] 27)).cell? ⟨w.heap.size,0,none⟩=some (.int .i64 0) from xaa _ _ _ _ rfl 0)
 have r1:=qzA (xaj (w.alloc (.cells #[.int .i64 0,.int .i64 0] 27)) (.cells #[.int .i64 f.top.k,.int .i64 f.top.n] 27)) (show (w.alloc (.cells #[.int .i64 0,.int .i64 0] 27)).cell? ⟨w.heap.size,1,none⟩=some (.int .i64 0) from xaa _ _ _ _ rfl 1)
 have rf:∀ o,((w.alloc (.cells #[.int .i64 0,.int .i64 0] 27)).alloc (.cells #[.int .i64 f.top.k,.int .i64 f.top.n] 27)).frozen? ⟨w.heap.size,o,none⟩=false:=fun o=>((xaj _ _).frozen (p:=⟨w.heap.size,o,none⟩) (by simp)).trans (xam (qzJ w (.cells #[.int .i64 0,.int .i64 0] 27)) o)
 go_enter Tryz.func68,Tryz.ntmps68
 go_upto_region 2 with (fail)
 generalize ((w.alloc (.cells #[.int .i64 0,.int .i64 0] 27)).alloc (.cells #[.int .i64 f.top.k,.int .i64 f.top.n] 27))=W at *;have n1:¬ B+4=w.heap.size:=by omega
 have n2:¬ w.heap.size=B+4:=by omega
 have n3:¬ B+4=w.heap.size+1:=by omega
 have n4:¬ w.heap.size+1=B+4:=by omega
 simp at s0 s1
 have HSB:Hid (W.heap[B+4]?=some (.cells #[.slice (some ⟨b,o,none⟩) (m+1) cap] 28 (0,0))):=by show _=_;rw[← hm];exact HSB0.out
 go_wp2
 have hk:Kp (fun t=>t=K) T w (((W.setCell ⟨B+4,0,none⟩ (.slice (some ⟨b,o,none⟩) m cap)).setCell ⟨w.heap.size,0,none⟩ (.int .i64 f.top.k)).setCell ⟨w.heap.size,1,none⟩ (.int .i64 f.top.n)):=
  (((Kp.of_below HB1.out).set (fun _=>HK.out) _ _).set (fun h=>absurd h (Nat.lt_irrefl _)) _ _).set (fun h=>absurd h (Nat.lt_irrefl _)) _ _
 have hf:=HC.out _ hk (by rw[xab (by omega),xab (by omega)];exact xkK HSB.out _)
 refine qzK (v:=VV f.top) ?_ rfl ⟨rfl,⟨_,by rw[HP.out];exact hf⟩,hk.mono fun t h=>Or.inl h⟩
 simp[results,Tryz.results68,go_sem,r0,r1,n1,n2]
end
theorem xe4 {α:Type}{E:Lay α}{sz bytes:Nat}(G:Good E sz){t:TypeId}{Q:Nat->Prop}{B n k:Nat}{a:Option Addr}{w:World}{cs:List Value}{xs:List α}(hown:w.ownsRow B t sz (.slice a n k) n cs)(hc:Cells E sz Q w cs xs)(hn:xs.length=n)(hQ:∀ b,B<=b->b<w.heap.size->Q b)(hby:n*bytes<=140737488351232):IsRow E sz bytes Q w (.slice a n k) xs:=by
 obtain⟨-,⟨e,h0⟩ | ⟨g,c,cur,e,h1,h2,h3,h4,h5,h6⟩⟩:=hown
 ·cases e
  obtain rfl:=List.eq_nil_of_length_eq_zero hn
  exact xbG
 ·cases e
  subst hn
  exact hc.row G (hQ _ h1 (xaf h2)) h2 h6 h3 h4 hby
theorem xdK {t:TypeId}{B sz n k g:Nat}{w:World}{cs:List Value}(hown:w.ownsRow B t sz (.slice (some ⟨g,0,none⟩) n k) n cs){j:Nat}{u:Value}(hj:cs[j]?=some u):w.cell? ⟨g,j,none⟩=some u:=by
 obtain⟨-,⟨e,h0⟩ | ⟨g',c,cur,e,h1,h2,h3,h4,h5,h6⟩⟩:=hown
 ·cases e
 ·cases e
  rw[qzB h2];rw[← h6,List.getElem?_take] at hj
  split at hj
  ·simpa using hj
  ·cases hj
theorem xeJ {t:TypeId}{B sz n k g:Nat}{w:World}{cs:List Value}(hown:w.ownsRow B t sz (.slice (some ⟨g,0,none⟩) n k) n cs)(j:Nat):w.frozen? ⟨g,j,none⟩=false:=by
 obtain⟨-,⟨e,h0⟩ | ⟨g',c,cur,e,h1,h2,h3,h4,h5,h6⟩⟩:=hown
 ·cases e
 ·cases e
  unfold World.frozen?;simp[h2]
theorem Cells.setAt {α:Type}{E:Lay α}{sz:Nat}{P:Nat->Prop}{w:World}{cs cs':List Value}{xs:List α}(h:Cells E sz P w cs xs)(G:Good E sz){q:Nat}{y:α}(hq:q<xs.length)(hl:cs'.length=cs.length)(hk:∀ j,(j<q*sz\/(q+1)*sz<=j)->cs'[j]?=cs[j]?)(hy:E P w (fun k=>cs'[q*sz+k]?) y):Cells E sz P w cs' (xs.set q y):=by
 refine⟨by rw[hl,h.1,List.length_set],fun i x hx=>?_⟩
 by_cases hi:i=q
 ·subst hi;rw[List.getElem?_set_self hq] at hx
  cases hx
  exact hy
 ·rw[List.getElem?_set_ne (Ne.symm hi)] at hx;refine G.move (h.2 i x hx) (fun _ h=>h) (.refl _ _) fun k hk' v hv=>?_
  rw[hk]
  ·exact hv
  ·rcases Nat.lt_or_gt_of_ne hi with h' | h'
   ·left
    have:(i+1)*sz<=q*sz:=Nat.mul_le_mul_right _ h';rw[Nat.add_mul] at this
    omega
   ·right
    have:(q+1)*sz<=i*sz:=Nat.mul_le_mul_right _ h'
    omega
theorem xhA {w:World}{a:Option Addr}{cap:Nat}{P:Nat->Prop}{hs:List QO}(h:xaC P w (.slice a hs.length cap) hs):∃ cs,Cells xlt 2 P w cs hs/\∀ j u,cs[j]?=some u->∃ b,a=some b/\w.cell? (b.add j)=some u:=by
 obtain⟨a',cap',e,-,-,-,hrow⟩:=h
 cases e
 exact hrow.cells xaD
theorem xfN {h:List QO}{v:QV}{j:Nat}{o:QO}(hk:v.k=4)(hn:v.n=(j:Int))(ho:h[j]?=some o)(n:Nat)(x:QV):xaR h v n x=h.set j ⟨o.cls,o.slots.set n x⟩:=by
 unfold xaR xdt;rw[if_pos ⟨hk,by omega⟩,hn]
 simp[ho,xaV,show ¬ (n:Int)<0 by omega]
theorem xhY {h:List QO}{v:QV}{j:Nat}{o:QO}(hk:v.k=4)(hn:v.n=(j:Int))(ho:h[j]?=some o)(n:Nat)(hl:o.slots.length<=n)(x:QV):xaR h v n x=h:=by
 rw[xfN hk hn ho,List.set_eq_of_length_le hl];have:=xae ho;rw[List.getElem?_eq_getElem this] at ho
 cases ho
 exact List.set_getElem_self _
theorem xg4 {h:List QO}{v:QV}(n:Int)(x:QV)(hv:xdt h v=none):xaR h v n x=h:=by unfold xaR;rw[hv]
section
variable {p:Rp} {T T':Nat->Nat} {w w':World} {mb:Nat} {m m':Mc RSt} {deep err deep' err':Int} {hv sv ov:Value}
theorem xl1 {a:Option Addr}{cap g cap' g2 cap2 j n B1 B2:Nat}{o:QO}{x:QV}{w1 w2:World}{cs:List Value}(h:RMac p T w mb m deep err (.slice a m.heap.length cap) sv ov)(hcs:Cells xlt 2 (Fx T w) w cs m.heap)
  (hb1:Below w.heap.size w w1) (hown:w1.ownsRow B1 64 2 (.slice (some ⟨g,0,none⟩) m.heap.length cap') m.heap.length cs) (hB1:w.heap.size<=B1) (hb2:Below w1.heap.size w1 w2) (hown2:w2.ownsRow B2 27 2 (.slice (some ⟨g2,0,none⟩) o.slots.length cap2) o.slots.length (xal o.slots)) (hB2:w1.heap.size<=B2)
  (ho:m.heap[j]?=some o) (hn:n<o.slots.length) (hs:o.slots.length*16<=140737488351232) (hl:m.heap.length<=1000) :
  RMac p (xau T w 0) ((((w2.setCell ⟨g2,n*2,none⟩ (.int .i64 x.k)).setCell ⟨g2,n*2+1,none⟩ (.int .i64 x.n)).setCell ⟨g,j*2+1,none⟩ (.slice (some ⟨g2,0,none⟩) o.slots.length cap2)).setCell ⟨mb,1,none⟩ (.slice (some ⟨g,0,none⟩) m.heap.length cap')) mb { m with heap:=m.heap.set j ⟨o.cls,o.slots.set n x⟩ } deep err (.slice (some ⟨g,0,none⟩) m.heap.length cap') sv ov/\
   Kp (fun t=>t=1) T w ((((w2.setCell ⟨g2,n*2,none⟩ (.int .i64 x.k)).setCell ⟨g2,n*2+1,none⟩ (.int .i64 x.n)).setCell ⟨g,j*2+1,none⟩ (.slice (some ⟨g2,0,none⟩) o.slots.length cap2)).setCell ⟨mb,1,none⟩ (.slice (some ⟨g,0,none⟩) m.heap.length cap')):=by
 have hj:=xae ho;have hlm:=xaf h.box;obtain⟨hg1,hg2'⟩:=hown.lt g rfl;obtain⟨hg3,hg4⟩:=hown2.lt g2 rfl;have hz:=hb1.size;have hz2:=hb2.size;have hbw:=xah hb1 hb2
 have k:Kp (fun t=>t=1) T w ((((w2.setCell ⟨g2,n*2,none⟩ (.int .i64 x.k)).setCell ⟨g2,n*2+1,none⟩ (.int .i64 x.n)).setCell ⟨g,j*2+1,none⟩ (.slice (some ⟨g2,0,none⟩) o.slots.length cap2)).setCell ⟨mb,1,none⟩ (.slice (some ⟨g,0,none⟩) m.heap.length cap')):=
  ((((Kp.of_below hbw).set (fun h=>by omega) _ _).set (fun h=>by omega) _ _).set (fun h=>by omega) _ _).set (fun _=>h.tag) _ _
 have hex:=xao T w 0;refine⟨?_,k⟩
 have hgrow:w2.ownsRow B1 64 2 (.slice (some ⟨g,0,none⟩) m.heap.length cap') m.heap.length cs:=by
  obtain⟨h0,h1 | ⟨g',c,cur,e,h1,h2,h3⟩⟩:=hown
  ·cases h1.1
  ·exact⟨h0,Or.inr ⟨g',c,cur,e,h1,by rw[hb2.block _ (xaf h2)];exact h2,h3⟩⟩
 have e1:=(hown2.stored (n*2) (.int .i64 x.k)).1;have e2:=(e1.stored (n*2+1) (.int .i64 x.n)).1;rw[xef] at e2;have e3:=ownsRow_setCell_other (ownsRow_setCell_other e2 (a:=⟨g,j*2+1,none⟩) (by simp[Value.ownBlock];omega) (.slice (some ⟨g2,0,none⟩) o.slots.length cap2)) (a:=⟨mb,1,none⟩) (by simp[Value.ownBlock];omega) (.slice (some ⟨g,0,none⟩) m.heap.length cap')
 have f1:=ownsRow_setCell_other (ownsRow_setCell_other hgrow (a:=⟨g2,n*2,none⟩) (by simp[Value.ownBlock];omega) (.int .i64 x.k)) (a:=⟨g2,n*2+1,none⟩) (by simp[Value.ownBlock];omega) (.int .i64 x.n)
 have f2:=(f1.stored (j*2+1) (.slice (some ⟨g2,0,none⟩) o.slots.length cap2)).1;have f3:=ownsRow_setCell_other f2 (a:=⟨mb,1,none⟩) (by simp[Value.ownBlock];omega) (.slice (some ⟨g,0,none⟩) m.heap.length cap')
 have hbox:w2.heap[mb]?=some (RB p m deep err (.slice a m.heap.length cap) sv ov):=xac h.box hbw;generalize hU:((((w2.setCell ⟨g2,n*2,none⟩ (.int .i64 x.k)).setCell ⟨g2,n*2+1,none⟩ (.int .i64 x.n)).setCell ⟨g,j*2+1,none⟩ (.slice (some ⟨g2,0,none⟩) o.slots.length cap2)).setCell ⟨mb,1,none⟩ (.slice (some ⟨g,0,none⟩) m.heap.length cap'))=U at *;have hUz:w2.heap.size<=U.heap.size:=by rw[← hU];simp
 have hsz:w.heap.size<=U.heap.size:=by omega
 have hall:∀ b,w.heap.size<=b->b<U.heap.size->Fx (xau T w 0) U b:=fun b h1 h2=>⟨h2,xav h1⟩
 have hv2:xaB (Fx (xau T w 0) U) U (.slice (some ⟨g2,0,none⟩) o.slots.length cap2) (o.slots.set n x):=by
  have hc:Cells xmM 2 (Fx (xau T w 0) U) U (xal (o.slots.set n x)) (o.slots.set n x):=⟨xbm _,fun i y hy=>by
   obtain⟨d1,d2⟩:=xbO hy
   exact⟨by simpa using d1,d2⟩⟩
  exact xe4 xaK e3 hc (by simp) (fun b h1 h2=>hall b (by omega) h2) hs
 have hc0:Cells xlt 2 (Fx (xau T w 0) U) U cs m.heap:=hcs.keep xaD (Keeps.of_block fun b hb hl=>k.blk b hl (by rw[hb.2];omega)) fun b hb=>⟨by omega,by rw[hex b hb.1];exact hb.2⟩
 have hcl:=hc0.1
 have hc1:Cells xlt 2 (Fx (xau T w 0) U) U (cs.set (j*2+1) (.slice (some ⟨g2,0,none⟩) o.slots.length cap2)) (m.heap.set j ⟨o.cls,o.slots.set n x⟩):=by
  refine hc0.setAt xaD hj (by simp) (fun i hi=>?_) ?_
  ·rw[List.getElem?_set_ne (by omega)]
  ·obtain⟨d1,-⟩:=hc0.2 j o ho
   exact⟨by show (cs.set _ _)[j*2+0]?=_;rw[List.getElem?_set_ne (by omega)];exact d1,_,by show (cs.set _ _)[j*2+1]?=_;rw[List.getElem?_set_self (by omega)],hv2⟩
 have hb':U.heap[mb]?=some (RB p { m with heap:=m.heap.set j ⟨o.cls,o.slots.set n x⟩ } deep err (.slice (some ⟨g,0,none⟩) m.heap.length cap') sv ov):=by
  rw[← hU];refine xj1 (hv:=.slice a m.heap.length cap) ?_ _ _;rw[xab (by omega),xab (by omega),xab (by omega)]
  exact hbox
 have hs1:=h.sites.keep (w':=U) fun b hg=>k.blk b (h.sites.lt b hg).2 (by rw[h.stag b hg];omega)
 have ho1:=h.of.keep (w':=U) fun b hg=>k.blk b (h.of.lt b hg).2 (by rw[h.otag b hg];omega)
 exact⟨hb',by rw[hex _ hlm];exact h.tag,h.cls.fx xaz hex k (by omega),xe4 xaD f3 hc1 (by simp) (fun b h1 h2=>hall b (by omega) h2) (by omega),hs1,fun b hg=>by rw[hex _ (h.sites.lt b hg).2];exact h.stag b hg,ho1,fun b hg=>by rw[hex _ (h.of.lt b hg).2];exact h.otag b hg⟩
def xoD (p:Rp)(T:Nat->Nat)(w:World)(mb:Nat)(m:Mc RSt)(deep err:Int)(sv ov:Value)(e:Ending)(w':World):Prop:=
 e=.returned (.tuple #[])/\(∃ T' hv',Ext T T' w/\RMac p T' w' mb m deep err hv' sv ov)/\Kp (fun t=>t=1) T w w'
theorem xlH (h:RMac p T w mb m deep err hv sv ov)(v:QV)(n:Nat)(x:QV)(hw:xas m.heap.length v=0)(hl:m.heap.length<=1000):Calls Tryz.prog 70 #[.pointer (some ⟨mb,0,none⟩),VV v,.int .i64 (n:Int),VV x] w fun e w'=>xoD p T w mb { m with heap:=xaR m.heap v n x } deep err sv ov e w':=by
 have hlm:=xaf h.box;have hb1:=xca w (.cells #[.int .i64 v.k,.int .i64 v.n] 27) (.cells #[.int .i64 x.k,.int .i64 x.n] 27);obtain⟨a,cap,rfl,hl1,hcap,-,-⟩:=id h.heap;unfold maxLen at hcap;obtain⟨cs,hcs,hsrc⟩:=xhA h.heap;have a0:=qzA (xaj _ (.cells #[.int .i64 x.k,.int .i64 x.n] 27)) (show (w.alloc (.cells #[.int .i64 v.k,.int .i64 v.n] 27)).cell? ⟨w.heap.size,0,none⟩=some (.int .i64 v.k) from xaa _ _ _ _ rfl 0)
 have a1:=qzA (xaj _ (.cells #[.int .i64 x.k,.int .i64 x.n] 27)) (show (w.alloc (.cells #[.int .i64 v.k,.int .i64 v.n] 27)).cell? ⟨w.heap.size,1,none⟩=some (.int .i64 v.n) from xaa _ _ _ _ rfl 1)
 have x0:=xaa (w.alloc (.cells #[.int .i64 v.k,.int .i64 v.n] 27)) #[.int .i64 x.k,.int .i64 x.n] 27 (w.heap.size+1) (by simp) 0
 have x1:=xaa (w.alloc (.cells #[.int .i64 v.k,.int .i64 v.n] 27)) #[.int .i64 x.k,.int .i64 x.n] 27 (w.heap.size+1) (by simp) 1
 have h1:=h.later hb1;have HH:=hid h;have hz1:w.heap.size+2<=((w.alloc (.cells #[.int .i64 v.k,.int .i64 v.n] 27)).alloc (.cells #[.int .i64 x.k,.int .i64 x.n] 27)).heap.size:=by simp
 go_enter Tryz.func70,Tryz.ntmps70
 go_upto_region 1 with (fail)
 generalize ((w.alloc (.cells #[.int .i64 v.k,.int .i64 v.n] 27)).alloc (.cells #[.int .i64 x.k,.int .i64 x.n] 27))=W at *
 simp at x0 x1
 have c1:=qzA (xaj W (.cells #[] 64)) h1.c1;have hlen:=hcs.1
 go_upto_region 2 with (at_builtin;refine xa4 rfl (.tmp 10) (.tmp 15) 23 64 _ 2 32 rfl Tryz.underlying23 xgX rfl (by omega) (by omega) W.heap.size rfl (qzJ _ _) a m.heap.length cap rfl cs hlen (fun j u hj=>by obtain⟨b,e,h⟩:=hsrc j u hj;exact⟨b,e,qzA (xah hb1 (xaj _ _)) h⟩) (by omega) ?_;intro g cap' w1 hown hg hgl hbA)
 have hbB:Below W.heap.size W w1:=xbz (qzL _ _) hbA;have hbw:=xah hb1 hbB;replace a0:=qzA hbB a0;replace a1:=qzA hbB a1;replace x0:=qzA hbB x0;replace x1:=qzA hbB x1;replace h1:=h1.later hbB
 have hgW:W.heap.size<=g:=by
  rcases hg with h | h
  ·omega
  ·have hh:=h
   simp at hh;omega
 have hz2:=hbB.size;clear hbA hg c1 hb1 hbB
 have hend:xaR m.heap v n x=m.heap->(∃ T' hv',Ext T T' w/\RMac p T' w1 mb { m with heap:=xaR m.heap v n x } deep err hv' sv ov)/\Kp (fun t=>t=1) T w w1:=fun e=>by
  rw[e];exact⟨⟨T,_,.refl _ _,h1⟩,Kp.of_below hbw⟩
 have HE:=hid hend;clear hend
 by_cases hk:v.k=4
 ·obtain⟨j,hj,hjl⟩:∃ j:Nat,v.n=(j:Int)/\j<m.heap.length:=by
   unfold xas xch at hw;rw[hk] at hw;refine⟨v.n.toNat,?_,?_⟩<;>(simp at hw;omega)
  have ho:m.heap[j]?=some m.heap[j]:=by simp[hjl]
  have HO:=hid ho;generalize m.heap[j]=o at *;obtain⟨d0,sl,d1,hsl⟩:=hcs.2 j o ho;obtain⟨asl,csl,rfl,hl2,hc2,hby2,hrs⟩:=id hsl;have u1:w1.cell? ⟨g,j*2+1,none⟩=some (.slice asl o.slots.length csl):=xdK hown d1;have uf:=xeJ hown;have hj1:(j:Int)<(m.heap.length:Int):=by omega
  have hj0:(0:Int)<=(j:Int):=by omega
  have hkk:(v.k == 4)=true:=by simpa using hk
  rw[hj] at a1;rw[hk] at a0;unfold maxLen at hc2;have HKN:=hid (And.intro hk hj);clear hk hj hkk d0 d1 ho hw
  by_cases hn:n<o.slots.length
  ·have hn1:(n:Int)<(o.slots.length:Int):=by omega
   have hn0:(0:Int)<=(n:Int):=by omega
   have HS:Hid (xaR m.heap v n x=m.heap.set j ⟨o.cls,o.slots.set n x⟩):=xfN HKN.out.1 HKN.out.2 HO.out n x;obtain⟨vs,hvs,hvsrc⟩:=hrs.cells xaK;have hvc:=xco (E:=()) hvs;subst hvc;have hvl:=hvs.1;have HV:=hid hvsrc;clear hvsrc hvs hrs HE;have HOW:=hid hown;clear hown;have u1a:=qzA (xaj w1 (.cells #[] 27)) u1;have a1a:=qzA (xaj w1 (.cells #[] 27)) a1
   go_upto_region 4 with (at_builtin;refine xa4 rfl (.tmp 38) (.tmp 44) 28 27 _ 2 16 rfl Tryz.underlying28 xbW rfl (by omega) (by omega) w1.heap.size rfl (qzJ _ _) asl o.slots.length csl rfl (xal o.slots) hvl (fun j u hj=>by obtain⟨b,e,h⟩:=HV.out j u hj;exact⟨b,e,qzA (xah hbw (xaj _ _)) h⟩) hby2 ?_;intro g2 cap2 w2 hown2 hg2 hgl2 hbA)
   have hbB:Below w1.heap.size w1 w2:=xbz (qzL _ _) hbA
   have hgW2:w1.heap.size<=g2:=by
    rcases hg2 with h | h
    ·omega
    ·have hh:=h
     simp at hh;omega
   obtain⟨f1,f2⟩:=xl1 (x:=x) HH.out hcs hbw HOW.out (by omega) hbB hown2 (qzC _) HO.out hn hby2 hl
   have F1:=hid f1;have F2:=hid f2;clear f1 f2;replace a1:=qzA hbB a1;replace x0:=qzA hbB x0;replace x1:=qzA hbB x1;obtain⟨z0,z1⟩:=xbO (show o.slots[n]?=some o.slots[n] by simp[hn])
   have y0:=xdK hown2 z0;have y1:=xdK hown2 z1;have yf:=xeJ hown2;have u1':=qzA hbB u1;have uf':∀ o,w2.frozen? ⟨g,o,none⟩=false:=fun o=>(hbB.frozen (p:=⟨g,o,none⟩) hgl).trans (uf o)
   have m1:=(h1.later hbB).c1;have mf:=xam (h1.later hbB).box;have hmw:mb<w1.heap.size:=xaf h1.box;have q1:¬ g2=g:=by omega
   have q2:¬ g=g2:=by omega
   have q3:¬ g2=mb:=by omega
   have q4:¬ mb=g2:=by omega
   have q5:¬ g=mb:=by omega
   have q6:¬ mb=g:=by omega
   have q7:¬ g2=w.heap.size:=by omega
   have q8:¬ w.heap.size=g2:=by omega
   have q9:¬ g2=w.heap.size+1:=by omega
   have q10:¬ w.heap.size+1=g2:=by omega
   have q11:¬ g=w.heap.size:=by omega
   have q12:¬ w.heap.size=g:=by omega
   clear hbA hg2 hown2 u1 uf z0 z1 h1 u1a a1a;go_wp2;rw[HS.out]
   exact bodyPost_end (v:=.tuple #[]) (by simp[results,Tryz.results70,go_sem]) rfl ⟨rfl,⟨_,_,xao T w 0,F1.out⟩,F2.out⟩
  ·have hn1:¬ (n:Int)<(o.slots.length:Int):=by omega
   have hn2:(o.slots.length:Int)<=(n:Int):=by omega
   have hn3:o.slots.length<=n:=by omega
   have HS:=hid (HE.out (xhY HKN.out.1 HKN.out.2 HO.out n (by omega) x))
   clear hn HE;go_wp2
   exact bodyPost_end (v:=.tuple #[]) (by simp[results,Tryz.results70,go_sem]) rfl ⟨rfl,HS.out.1,HS.out.2⟩
 ·have hkk:(v.k == 4)=false:=by simpa using hk
  have HS:=hid (HE.out (xg4 n x (by unfold xdt;rw[if_neg (by omega)])))
  clear hk HE hw;go_wp2
  exact bodyPost_end (v:=.tuple #[]) (by simp[results,Tryz.results70,go_sem]) rfl ⟨rfl,HS.out.1,HS.out.2⟩
end
def Few (m:Mc RSt):Prop:=(m.st.length:Int)<=m.sz_
def xmP (m:Mc RSt):Prop:=(m.st.length:Int)<=m.sz_+1
def xmR {α:Type}(r:Mc RSt × α × Int):Prop:=(r.2.2=0->Few r.1)/\xmP r.1
def xgT (ent:Ent RSt):Prop:=∀ m c n s a,xmP m->xmR (ent m c n s a)
theorem Few.r {α:Type}{m:Mc RSt}(h:Few m)(f:α)(e:Int):xmR (m,f,e):=⟨fun _=>h,by unfold xmP;unfold Few at h;show (m.st.length:Int)<=m.sz_+1;omega⟩
theorem xiT {m:Mc RSt}(h:Few m)(f:Fr)(a b:Int):xmR (xaX m f a b):=by
 unfold xaX
 by_cases hb:b<=a
 ·simp only[hb,if_true];split<;>exact Few.r (m:={ m with turns:=m.turns+1 }) h _ _
 ·simp only[hb,if_false];split<;>exact Few.r h _ _
theorem xmh {X:QW}{fuel:Int}{ent:Ent RSt}(he:xgT ent){m:Mc RSt}(h:Few m)(f:Fr)(a:Int)(x:QI):xmR (xcm ent (xcK X fuel) m f a x):=by
 unfold xcm;simp only[]
 have hr:=he { m with st:=((xcK X fuel).look m.st (f.site a x) (xar m.heap (xaW (f.stack.take (xbu f.stack x.a)) 0)) x.name).1 } ((xcK X fuel).look m.st (f.site a x) (xar m.heap (xaW (f.stack.take (xbu f.stack x.a)) 0)) x.name).2.1 ((xcK X fuel).look m.st (f.site a x) (xar m.heap (xaW (f.stack.take (xbu f.stack x.a)) 0)) x.name).2.2 (xaW (f.stack.take (xbu f.stack x.a)) 0) (f.stack.drop (xbu f.stack x.a)) (by
  unfold xmP xcK;unfold Few at h;simp only[List.length_append,List.length_cons,List.length_nil];omega)
 split
 ·rename_i hne;exact⟨fun h0=>absurd h0 hne,hr.2⟩
 ·rename_i hne;exact⟨fun _=>hr.1 (by simpa using hne),hr.2⟩
theorem xiR {X:QW}{fuel:Int}{ent:Ent RSt}(he:xgT ent)(d:Nat){m:Mc RSt}(h:Few m){f:Fr}(hf:f.fast=false)(a:Int)(x:QI):xmR (xan ent (xcK X fuel) d m f a x):=by
 unfold xan
 split
 ·exact h.r _ _
 ·split
  ·exact h.r _ _
  ·split
   ·exact h.r _ _
   ·split
    ·exact h.r _ _
    ·split
     ·exact Few.r (m:={ m with heap:=_ }) h _ _
     ·split
      ·unfold xbQ
       split
       ·exact h.r _ _
       ·exact Few.r (m:={ m with heap:=_ }) h _ _
      ·split
       ·exact xmh he h f a x
       ·split
        ·exact xiT h f a x.a
        ·split
         ·unfold xbr
          split
          ·exact h.r _ _
          ·split
           ·exact xiT h _ a x.a
           ·exact h.r _ _
         ·unfold xcl;rw[if_pos hf]
          exact h.r _ _
theorem xkb {X:QW}{fuel:Int}{ent:Ent RSt}(he:xgT ent)(d:Nat):∀ (g:Nat) {m:Mc RSt} (h:Few m) {f:Fr} (hf:f.fast=false),xmR (xcL ent (xcK X fuel) d g m f)
 | 0,m,h,f,hf=>h.r _ _
 | g+1,m,h,f,hf=>by
  unfold xcL;generalize (if f.pc<0 then none else f.code[f.pc.toNat]?)=q
  cases q with
  | none=>exact h.r _ _
  | some x=>
   simp only[]
   split
   ·exact h.r _ _
   ·have hs:=xiR (X:=X) (fuel:=fuel) he d h (f:={ f with pc:=f.pc+1 }) hf f.pc x
    split
    ·rename_i hne;exact⟨fun h0=>absurd h0 hne,hs.2⟩
    ·rename_i hne
     exact xkb he d g (hs.1 (by simpa using hne)) (xna ent (xcK X fuel) d m { f with pc:=f.pc+1 } f.pc x hf)
theorem xha {X:QW}{fuel:Int}(d:Nat){body:Mc RSt->Fr->Mc RSt × QV × Int}(hb:∀ {m f},Few m->f.fast=false->xmR (body m f)):xgT (xbj (xcK X fuel) d body):=by
 intro m c n s a h;have h1:∀ (v:QV) (e:Int),e≠0->xmR (m,v,e):=fun v e he=>⟨fun h0=>absurd h0 he,h⟩
 unfold xbj
 cases hm:xaO (xcK X fuel).cz c n with
 | none=>exact h1 _ _ (by omega)
 | some mt=>
  simp only[]
  split
  ·exact h1 _ _ (by omega)
  ·split
   ·split
    ·exact h1 _ _ (by omega)
    ·have:Few { m with sz_:=m.sz_+1 }:=h
     exact this.r _ _
   ·split
    ·rename_i hne;exact h1 _ _ hne
    ·rename_i hne;unfold xay at hne ⊢
     split
     ·rename_i hc;rw[if_pos hc] at hne;simp at hne
     ·rename_i hc;rw[if_neg hc] at hne
      split
      ·rename_i hc;rw[if_pos hc] at hne;simp at hne
      ·exact hb (m:={ m with sz_:=m.sz_+1 }) h rfl
theorem xla (X:QW)(fuel:Int):∀ d:Nat,xgT (xa1 (xcK X fuel) d)
 | 0=>xha 0 fun h _=>h.r _ _
 | d+1=>xha (d+1) fun {m f} h hf=>xkb (xla X fuel d) d (xeQ f) h hf
abbrev Rp.E (p:Rp):Env RSt:=xcK p.X p.fuel
def xaS (p:Rp)(T:Nat->Nat)(w:World)(mb:Nat)(deep:Int)(K:Nat)(r:Mc RSt × QV × Int)(e:Ending)(w':World):Prop:=
 e=.returned (VV r.2.1)/\(∃ T' hv sv ov,Ext T T' w/\RMac p T' w' mb r.1 deep r.2.2 hv sv ov)/\Kp (All K) T w w'
def xoY (p:Rp)(d:Nat):Prop:=
 ∀ (K:Nat) (T:Nat->Nat) (w:World) (mb:Nat) (m:Mc RSt) (hv sv ov:Value) (c n:Int) (self:QV) (args:List QV) (av:Value) (mt:QM),5<=K->RMac p T w mb m (20-(d:Int)) 0 hv sv ov->MIn p.E m->xmP m->xas m.heap.length self=0->VsOk m.heap.length args->xaB (Fx T w) w av args->xaO p.X.cz c n=some mt->
  Calls Tryz.prog 35 #[.pointer (some ⟨mb,0,none⟩),.int .i64 c,.int .i64 n,VV self,av] w fun e w'=>xaS p T w mb (20-(d:Int)) K (xa1 p.E d m c n self args) e w'
structure Rx (p:Rp):Prop where
 right:xaJ p.X=0
 fuel:0<=p.fuel/\p.fuel<=400
theorem Rx.ok {p:Rp}(h:Rx p):EOk p.E:=xeM h.right _ _
structure BdR (p:Rp)(d:Nat)(T:Nat->Nat)(w:World)(mb K:Nat)(R:Mc RSt × QV × Int)(av kv:Value)(gk:Nat)(at':Value)(T1:Nat->Nat)(m:Mc RSt)(f:Fr)(err:Int)(wr:World):Prop where
 ext:Ext T T1 w
 kp:Kp (All K) T w wr
 mac:∃ hv sv ov,RMac p T1 wr mb m (20-(d:Int)) err hv sv ov
 res:wr.heap[w.heap.size+2]?=some (.cells #[.int .i64 0,.int .i64 0] 27 (0,0))
 tres:T1 (w.heap.size+2)=4
 pos:5<=K
 run:err=0->∃ st,RF T1 K wr w.heap.size f av kv st
 min:err=0->MIn p.E m/\Few m/\FOk p.X.cz m.heap.length f/\PlOk f/\muE m f<=gk/\xcL (xa1 p.E d) p.E d gk m f=R/\at'=.int .i64 f.pc
 bad:err≠0->R=(m,xaU,err)
section
variable {p:Rp} {d:Nat} {T T1 T2:Nat->Nat} {w wr w2:World} {mb K:Nat} {R:Mc RSt × QV × Int} {av kv:Value} {gk:Nat} {at' at2:Value} {m:Mc RSt} {f:Fr}
theorem BdR.next {G' k:Nat}{x:QI}(hX:Rx p)(hR:BdR p d T w mb K R av kv gk at' T1 m f 0 wr)(hg:gk=G'+1)(hx:NxOk f k x)(h17:x.op≠17){r:Mc RSt × Fr × Int}(hr:xan (xa1 p.E d) p.E d m { f with pc:=f.pc+1 } f.pc x=r)
  (hE:Ext T1 T2 wr) (hK:Kp (All K) T1 wr w2) {hv sv ov:Value} (hM:RMac p T2 w2 mb r.1 (20-(d:Int)) r.2.2 hv sv ov) (hF:r.2.2=0->∃ st,RF T2 K w2 w.heap.size r.2.1 av kv st) (ha:r.2.2=0->at2=.int .i64 r.2.1.pc) :
  BdR p d T w mb K R av kv G' at2 T2 r.1 r.2.1 r.2.2 w2:=by
 obtain⟨hI,hFew,hFo,hPl,hmu,hval,-⟩:=hR.min rfl;have hp:=hR.pos;have hpc:=hx.pc;have hlt:=hx.lt;have hcode:=hFo.code f.code[k] (List.getElem_mem hlt);have hxk:f.code[k]=x:=by have:=hx.here;rw[List.getElem?_eq_getElem hlt] at this;cases this;rfl
 rw[hxk] at hcode;have hst:=xgl hX.ok (xhl hX.ok d) d hI.heap (f:={ f with pc:=f.pc+1 }) ⟨hFo.self,hFo.args,hFo.temps,hFo.stack,hFo.code,hFo.plain⟩ f.pc hcode.1 hcode.2
 have hle:=xh5 (xlf p.E d) d hI.sz_.2 { f with pc:=f.pc+1 } f.pc x
 have htu:=xei (xcU p.E d) p.E d m { f with pc:=f.pc+1 } f.pc x
 have hfew:=xiR (X:=p.X) (fuel:=p.fuel) (xla p.X p.fuel d) d hFew (f:={ f with pc:=f.pc+1 }) hPl.fast f.pc x
 have hV:R=if r.2.2≠0 then (r.1,xaU,r.2.2) else xcL (xa1 p.E d) p.E d G' r.1 r.2.1:=by
  rw[← hval,hg]
  conv=>lhs;unfold xcL
  rw[hpc,if_neg (by omega)]
  simp only[Int.toNat_natCast,hx.here];rw[if_neg h17,← hpc,hr]
 rw[hr] at hst hle htu hfew;refine⟨hR.ext.trans hR.kp.size hE,hR.kp.trans hR.ext hK,⟨_,_,_,hM⟩,hK.held hR.res (by rw[hR.tres];unfold All;omega),by rw[hE _ (xaf hR.res)];exact hR.tres,hp,hF,fun h0=>?_,fun h0=>by rw[hV,if_pos h0]⟩
 have h0':(xan (xa1 p.E d) p.E d m { f with pc:=f.pc+1 } f.pc x).2.2=0:=by rw[hr];exact h0
 have ht:=xkU (xob p.E d) d hI.turns.2 (f:={ f with pc:=f.pc+1 }) h0'
 have hpl:=xn7 hPl hx h17 h0';have hmu2:=xhK (xcU p.E d) (E:=p.E) (d:=d) hI.turns.1 (f:=f) (by omega) (by omega) h0'
 rw[hr] at ht hpl hmu2;refine⟨⟨hst.1.heap,⟨by have:=hI.sz_;omega,hle.1⟩,⟨by have:=hI.turns;omega,ht⟩⟩,hfew.1 h0,hst.2 h0,hpl,by omega,?_,ha h0⟩
 rw[hV,if_neg (by simpa using h0)]
end
theorem xfA {w:World}(T ty e:TypeId)(z:Value)(sz bytes:Nat)(hT:Tryz.prog.underlying T=some (.slice e))(hI:(Tryz.prog.info? e).map (fun i=>(i.zero,i.size,i.bytes))=some (some z,sz,bytes))(hzs:z.cells.size=sz)(hsz:0<sz)
  (base n:Nat) (v:Value) (xs:List Value) (hown:ownsAt w base e sz v n xs) (Bb:Nat) (news:List Value) (hl:news.length=2*sz) (hX:w.heap[Bb]?=some (.cells news.toArray e (0,0))) (h1:∀ u∈news,u.oneCell'=true) (h63:n+2<=maxLen) (hby:(n+2)*bytes<=140737488355328) (hbase:base<=w.heap.size) :
  ∃ v' w',(Builtin.append_ #[T,T] ty #[v,.slice (some ⟨Bb,0,none⟩) 2 2]).run Tryz.prog w=.ok v' w'/\ownsAt w' base e sz v' (n+2) (xs++news)/\(v'.ownBlock=v.ownBlock\/∃ g,v'.ownBlock=some g/\w.heap.size<=g)/\Below base w w'/\(∀ b,b<w.heap.size->some b≠v.ownBlock->w'.heap[b]?=w.heap[b]?):=by
 obtain⟨i0,hi,hz0,hz1,hz2⟩:=xa3 hI;have hnews:∀ j u,news[j]?=some u->w.cell? ((⟨Bb,0,none⟩:Addr).add j)=some u:=fun j u hu=>by rw[Addr.add_lit,Nat.zero_add,qzB hX];simpa using hu
 obtain⟨hxl,⟨rfl,rfl⟩ | ⟨g,o,cap,cur,rfl,h3,h4,h5,h6,h7,h8⟩⟩:=id hown
 ·obtain⟨v',w',hrun,r1,r2,_⟩:=run_append_own (P:=Tryz.prog) w w.heap.size T ty e i0 z sz bytes hT hi hz0 hz1 hz2 hzs hsz (.slice none 0 0) 0 [] (World.ownsRow_nil w _ e sz) ⟨Bb,0,none⟩ 2 2 news (by omega) hnews h1 h63 hby (qzC _)
  have hxs:xs=[]:=List.eq_nil_of_length_eq_zero (by simpa using hxl)
  subst hxs;refine⟨v',w',hrun,xdq (by simpa using r1) hbase,Or.inr ?_,?_,fun b hb hne=>r2.block b hb hne⟩
  ·obtain⟨-,h | ⟨g,c,cur,e,h3,h4,-⟩⟩:=r1
   ·omega
   ·exact⟨g,by rw[e];rfl,h3⟩
  ·exact (qzL _ _).grown r2 hbase fun k hk=>by cases hk
 ·by_cases hr:n+2<=cap
  ·have hcs:cur.toList.length=cur.size:=by simp
   have hon:o+n*sz+news.length<=cur.size:=by
    have:(n+2)*sz<=cap*sz:=Nat.mul_le_mul_right _ hr;rw[Nat.add_mul] at this
    omega
   have hrun:=run_append_room_cells (P:=Tryz.prog) w T ty e i0 hT hi g o n cap ⟨Bb,0,none⟩ 2 2 news (by rw[hz1];omega) hnews h1 hr (fun j hj=>by rw[hz1,qzB h4];simp;omega) (fun j hj=>by unfold World.frozen?;simp[h4])
   rw[hz1] at hrun;have hrow:=xdl news (o+n*sz) w cur h4 hon;refine⟨_,_,hrun,⟨by rw[List.length_append,hxl,hl,Nat.add_mul],Or.inr ⟨g,o,cap,_,rfl,h3,hrow,hr,h6,?_,?_⟩⟩,Or.inl rfl,?_,fun b hb hne=>xaI (fun e=>hne (by rw[e];rfl)) _ _ _⟩
   ·simp
    omega
   ·rw[← h8]
    apply List.ext_getElem?
    intro i;simp only[List.getElem?_take,List.getElem?_drop,List.getElem?_append,List.length_append,List.length_take,List.length_drop,hcs];have e1:min (o+n*sz) cur.size=o+n*sz:=by omega
    have e2:min (n*sz) (cur.size-o)=n*sz:=by omega
    rw[e1,e2];have e3:(n+2)*sz=n*sz+2*sz:=by rw[Nat.add_mul]
    rw[e3]
    by_cases g1:i<n*sz
    ·simp[g1,show i<n*sz+2*sz by omega,show o+i<o+n*sz by omega,show o+i<o+n*sz+news.length by omega]
    ·by_cases g2:i<n*sz+2*sz
     ·simp[g1,g2,show ¬ (o+i<o+n*sz) by omega,show o+i<o+n*sz+news.length by omega,show o+i-(o+n*sz)=i-n*sz by omega]
     ·simp[g1,g2]
      omega
   ·refine⟨?_,?_,?_,?_,fun k hk=>xaI (by omega) _ _ _⟩
    ·exact (xbB _ _ _ _).os
    ·exact (xbB _ _ _ _).tape
    ·exact (xbB _ _ _ _).output
    ·rw[xbh];exact qzC _
  ·obtain⟨v',w',hrun,r1,r2⟩:=run_append_arg_grows (P:=Tryz.prog) w T ty e i0 z sz bytes hT hi hz0 hz1 hz2 hzs hsz ⟨g,o,none⟩ n cap xs hxl (fun j u hu=>by
    rw[Addr.add_lit,qzB h4];rw[← h8,List.getElem?_take] at hu
    split at hu
    ·rw[List.getElem?_drop] at hu;simpa using hu
    ·cases hu) ⟨Bb,0,none⟩ 2 2 news (by omega) hnews (by omega) h63 hby
   refine⟨v',w',hrun,xdq r1 hbase,Or.inr ?_,?_,fun b hb hne=>r2.block b hb (by simp)⟩
   ·obtain⟨-,h | ⟨g,c,cur,e,h3,h4,-⟩⟩:=r1
    ·omega
    ·exact⟨g,by rw[e];rfl,h3⟩
   ·exact (qzL _ _).grown r2 hbase fun k hk=>by cases hk
theorem xev {ops:Array Oper}{rest:List Oper}{o:Oper}{a:Act}{w:World}{Q:Exit->Act->World->Prop}(hgd:o.guard=none)(s x:Operand)(T e:TypeId)(z:Value)(sz bytes:Nat)
  (hop:o.op=Op.call { callee:=Callee.builtin Builtin.append,args:=#[s,x],argTypes:=#[T,T] }) (hT:Tryz.prog.underlying T=some (.slice e)) (hI:(Tryz.prog.info? e).map (fun i=>(i.zero,i.size,i.bytes))=some (some z,sz,bytes)) (hzs:z.cells.size=sz) (hsz:0<sz)
  (base n:Nat) (v:Value) (xs:List Value) (hs:a.eval s=v) (hown:ownsAt w base e sz v n xs) (Bb:Nat) (hx:a.eval x=.slice (some ⟨Bb,0,none⟩) 2 2) (news:List Value) (hl:news.length=2*sz) (hX:w.heap[Bb]?=some (.cells news.toArray e (0,0))) (h1:∀ u∈news,u.oneCell'=true) (h63:n+2<=maxLen) (hby:(n+2)*bytes<=140737488355328) (hbase:base<=w.heap.size)
  (hK:∀ a' cap' w',ownsAt w' base e sz (.slice a' (n+2) cap') (n+2) (xs++news)->((Value.slice a' (n+2) cap').ownBlock=v.ownBlock\/∃ g,(Value.slice a' (n+2) cap').ownBlock=some g/\w.heap.size<=g)->Below base w w'->(∀ b,b<w.heap.size->some b≠v.ownBlock->w'.heap[b]?=w.heap[b]?)->wpList Tryz.prog ops Q rest (a.put o.dst (.slice a' (n+2) cap')) w') :
  wpList Tryz.prog ops Q (o :: rest) a w:=by
 refine wpList_plain hgd fun K hKK=>?_
 obtain⟨v',w',hrun,r1,r2,r3,r4⟩:=xfA T o.type e z sz bytes hT hI hzs hsz base n v xs hown Bb news hl hX h1 h63 hby hbase;obtain⟨a',cap',rfl,-⟩:=r1.form;unfold Oper.wp
 simp[execOp,hop,resolve,invoke,builtin,hs,hx,hrun,Result.andThen]
 exact hKK _ _ (hK a' cap' w' r1 r2 r3 r4)
def xlK (T:Nat->Nat)(B K:Nat):Nat->Nat:=fun b=>if b<B then T b else if b=B+3 then K+1 else if b=B+4 then K else 4
section
variable {p:Rp} {d:Nat} {T T1 T2:Nat->Nat} {w wr w2:World} {mb K:Nat} {R:Mc RSt × QV × Int} {av kv:Value} {gk:Nat} {at' at2:Value} {m:Mc RSt} {f:Fr}
theorem xjP {hv sv ov:Value}(h:RMac p T w mb m (20-(d:Int)) 0 hv sv ov)(hK:5<=K)(hI:MIn p.E m)(hW:Few m)(hFo:FOk p.X.cz m.heap.length f)(hPl:PlOk f)(hA:xaB (Fx T w) w av f.args)(hC:xa5 (Fx T w) w kv f.meth.code)(hst:f.stack=[])(hpc:f.pc=0)(hR:xcL (xa1 p.E d) p.E d (xeQ f) m f=R){U:World}(hb:Below w.heap.size w U)
  (u0:U.heap[w.heap.size]?=some (.cells #[.string f.meth.name,.int .i64 f.meth.args,.int .i64 f.meth.temps,.int .i64 f.meth.prim,kv] 59 (0,0))) (u1:U.heap[w.heap.size+1]?=some (.cells #[.int .i64 f.self.k,.int .i64 f.self.n] 27 (0,0))) (u2:U.heap[w.heap.size+2]?=some (.cells #[.int .i64 0,.int .i64 0] 27 (0,0)))
  (u3:U.heap[w.heap.size+3]?=some (.cells (xal f.temps).toArray 27 (0,0))) (u4:U.heap[w.heap.size+4]?=some (.cells #[.slice none 0 0] 28 (0,0))):BdR p d T w mb K R av kv (xeQ f) (.int .i64 0) (xlK T w.heap.size K) m f 0 U:=by
 have hE:Ext T (xlK T w.heap.size K) w:=fun b hb=>by unfold xlK;rw[if_pos hb]
 have hk:Kp (fun _=>False) T w U:=Kp.of_below hb
 refine⟨hE,Kp.of_below hb,⟨_,_,_,h.keep hE hk id id id id⟩,u2,?_,hK,fun _=>⟨.slice none 0 0,u0,u1,u3,u4,?_,?_,?_,?_,?_,?_,?_,hA.fx xaK hE hk id,by rw[hPl.code];exact hC.fx xbl hE hk id,hK⟩,fun _=>⟨hI,hW,hFo,hPl,xkZ hI.turns.1,hR,by rw[hpc]⟩,fun h=>absurd rfl h⟩
 ·unfold xlK;rw[if_neg (by omega),if_neg (by omega),if_neg (by omega)]
 ·unfold xlK;rw[if_neg (by omega),if_neg (by omega),if_neg (by omega)]
 ·unfold xlK;rw[if_neg (by omega),if_neg (by omega),if_neg (by omega)]
 ·unfold xlK;rw[if_neg (by omega),if_pos rfl]
 ·unfold xlK;rw[if_neg (by omega),if_neg (by omega),if_pos rfl]
 ·rw[hst];exact⟨rfl,Or.inl ⟨rfl,rfl⟩⟩
 ·intro g hg;cases hg
 ·rw[hst];simp
theorem xot (w:World)(o0 o1 o2 o3 o4:Obj):((((((w.alloc o0).alloc o1).alloc o2).alloc o3).alloc o4).heap[w.heap.size]?=some o0/\(((((w.alloc o0).alloc o1).alloc o2).alloc o3).alloc o4).heap[w.heap.size+1]?=some o1/\(((((w.alloc o0).alloc o1).alloc o2).alloc o3).alloc o4).heap[w.heap.size+2]?=some o2)/\(((((w.alloc o0).alloc o1).alloc o2).alloc o3).alloc o4).heap[w.heap.size+3]?=some o3/\(((((w.alloc o0).alloc o1).alloc o2).alloc o3).alloc o4).heap[w.heap.size+4]?=some o4:=by
 have s1:(w.alloc o0).heap.size=w.heap.size+1:=by simp
 have s2:((w.alloc o0).alloc o1).heap.size=w.heap.size+2:=by simp
 have s3:(((w.alloc o0).alloc o1).alloc o2).heap.size=w.heap.size+3:=by simp
 have s4:((((w.alloc o0).alloc o1).alloc o2).alloc o3).heap.size=w.heap.size+4:=by simp
 have h0:=qzJ w o0;have h1:=qzJ (w.alloc o0) o1;have h2:=qzJ ((w.alloc o0).alloc o1) o2;have h3:=qzJ (((w.alloc o0).alloc o1).alloc o2) o3;have h4:=qzJ ((((w.alloc o0).alloc o1).alloc o2).alloc o3) o4;rw[s1] at h1;rw[s2] at h2;rw[s3] at h3;rw[s4] at h4
 exact⟨⟨xac (xac (xac (xac h0 (xaj _ _)) (xaj _ _)) (xaj _ _)) (xaj _ _),xac (xac (xac h1 (xaj _ _)) (xaj _ _)) (xaj _ _),xac (xac h2 (xaj _ _)) (xaj _ _)⟩,xac h3 (xaj _ _),h4⟩
structure InB (W:World)(b:Nat)(x:QI):Prop where
 x0:W.cell? ⟨b,0,none⟩=some (.int .i64 x.op)
 x1:W.cell? ⟨b,1,none⟩=some (.int .i64 x.a)
 x4:W.cell? ⟨b,4,none⟩=some (.string x.name)
theorem xj8 (w:World)(x:QI):InB (w.alloc (.cells #[.int .i64 x.op,.int .i64 x.a,.int .i64 x.b,.int .i64 x.c,.string x.name] 76)) w.heap.size x:=⟨xaa _ _ _ _ rfl 0,xaa _ _ _ _ rfl 1,xaa _ _ _ _ rfl 4⟩
theorem InB.later {W W':World}{b:Nat}{x:QI}(h:InB W b x)(hb:Below W.heap.size W W'):InB W' b x:=⟨qzA hb h.x0,qzA hb h.x1,qzA hb h.x4⟩
abbrev xiO (c:Int)(n1 n2 n3:Nat)(f:Fr):Prop:=f.cls=c/\f.args.length=n1/\f.temps.length=n2/\f.code.length=n3
abbrev BdX (p:Rp)(d:Nat)(T:Nat->Nat)(w:World)(mb K:Nat)(R:Mc RSt × QV × Int)(av kv:Value)(c:Int)(n1 n2 n3:Nat)(gk:Nat)(at':Value)(wr:World):Prop:=
 ∃ T1 m f err,BdR p d T w mb K R av kv gk at' T1 m f err wr/\(err=0->xiO c n1 n2 n3 f)
theorem xdB {S:Nat->Prop}{U:World}(k:Kp S T1 wr U)(h:∀ t,S t->t=1\/t=2\/t=3\/K<=t):Kp (All K) T1 wr U:=k.mono fun t ht=>h t ht
variable {c:Int} {n1 n2 n3 G' k:Nat} {x:QI} {hv sv ov st st':Value} {U w':World}
theorem xcF (hX:Rx p)(hR:BdR p d T w mb K R av kv gk at' T1 m f 0 wr)(hg:gk=G'+1)(hx:NxOk f k x){v:QV}(hpu:xaA m.heap { f with pc:=f.pc+1 } x=some v)(hM:RMac p T1 wr mb m (20-(d:Int)) 0 hv sv ov)(hF:RF T1 K wr w.heap.size f av kv st)(hL:xiO c n1 n2 n3 f)(hU:Below wr.heap.size wr U)
  (r1:ownsAt w' 0 27 2 st' (f.stack.length+1) (xal f.stack++[.int .i64 v.k,.int .i64 v.n])) (r2:st'.ownBlock=st.ownBlock\/∃ g,st'.ownBlock=some g/\U.heap.size<=g) (r3:Below 0 U w') (r4:∀ b,b<U.heap.size->some b≠st.ownBlock->w'.heap[b]?=U.heap[b]?) :
  BdX p d T w mb K R av kv c n1 n2 n3 G' (.int .i64 ((k:Int)+1)) (w'.setCell ⟨w.heap.size+4,0,none⟩ st'):=by
 have hp:=hF.pos;have hfew:=hx.few;obtain⟨⟨T2,e1,e2⟩,e3⟩:=hF.pushed (vs:=[v]) hU (by simp;omega) (by simpa [xal] using r1) r2 r3 r4
 have ho:=xfQ hpu;have hr:xan (xa1 p.E d) p.E d m { f with pc:=f.pc+1 } f.pc x=(m,({ f with pc:=f.pc+1 }:Fr).push v,0):=by unfold xan;rw[hpu]
 exact⟨_,_,_,_,hR.next hX hg hx (by omega) hr e1 (xdB e3 fun t ht=>by omega) (hM.keep e1 e3 (by omega) (by omega) (by omega) (by omega)) (fun _=>⟨_,e2.at _⟩) (fun _=>by show _=Value.int .i64 (f.pc+1);rw[hx.pc]),fun _=>hL⟩
theorem xbR (hF:RF T1 K wr w.heap.size f av kv st)(hU:Below wr.heap.size wr U)(r4:∀ b,b<U.heap.size->some b≠st.ownBlock->w'.heap[b]?=U.heap[b]?):w'.cell? ⟨w.heap.size+4,0,none⟩=some st/\∀ o,w'.frozen? ⟨w.heap.size+4,o,none⟩=false:=by
 have hlt:=xaf hF.sb;have hp:=hF.pos;have hnb:some (w.heap.size+4)≠st.ownBlock:=fun e=>by have:=hF.stag _ e.symm;rw[hF.t4] at this;omega
 have hbx:w'.heap[w.heap.size+4]?=some (.cells #[st] 28 (0,0)):=by rw[r4 _ (qzE hlt hU.size) hnb,hU.block _ hlt];exact hF.sb
 exact⟨by rw[qzB hbx];rfl,xam hbx⟩
theorem xnX (hX:Rx p)(hR:BdR p d T w mb K R av kv gk at' T1 m f 0 wr)(hg:gk=G'+1)(hx:NxOk f k x)(hop:x.op=9\/False)(hM:RMac p T1 wr mb m (20-(d:Int)) 0 hv sv ov)(hL:xiO c n1 n2 n3 f)(hU:Below wr.heap.size wr U)(hF:RF T1 K w' w.heap.size f.pop av kv st')(hK:Kp (fun t=>t=K\/t=K+2) T1 U w') :
  BdX p d T w mb K R av kv c n1 n2 n3 G' (.int .i64 ((k:Int)+1)) w':=by
 have hp:=hR.pos;have ho:x.op=9:=hop.elim id False.elim
 have hr:xan (xa1 p.E d) p.E d m { f with pc:=f.pc+1 } f.pc x=(m,({ f with pc:=f.pc+1 }:Fr).pop,0):=by
  have hpu:xaA m.heap { f with pc:=f.pc+1 } x=none:=by unfold xaA;simp[ho]
  unfold xan;rw[hpu];simp only[];rw[if_pos ho]
 have k2:Kp (fun t=>t=K\/t=K+2) T1 wr w':=(Kp.of_below hU).trans (.refl _ _) hK
 exact⟨_,_,_,_,hR.next hX hg hx (by omega) hr (.refl _ _) (xdB k2 fun t ht=>by omega) (hM.keep (.refl _ _) k2 (by omega) (by omega) (by omega) (by omega)) (fun _=>⟨_,hF.at _⟩) (fun _=>by show _=Value.int .i64 (f.pc+1);rw[hx.pc]),fun _=>hL⟩
structure PcS (p:Rp)(T1:Nat->Nat)(K:Nat)(w wr:World)(mb:Nat)(m:Mc RSt)(d:Nat)(f:Fr)(hv sv ov av kv st:Value)(W:World):Prop where
 mac:RMac p T1 W mb m (20-(d:Int)) 0 hv sv ov
 fr:RF T1 K W w.heap.size f av kv st
 bel:Below wr.heap.size wr W
theorem pcS {a b:Addr}{y z:Value}{W W':World}(h1:W.cell? a=some y)(h2:W.cell? b=some z)(h:PcS p T1 K w wr mb m d f hv sv ov av kv st W)(hb:Below W.heap.size W W'):W'.cell? a=some y/\W'.cell? b=some z/\PcS p T1 K w wr mb m d f hv sv ov av kv st W':=⟨qzA hb h1,qzA hb h2,h.mac.later hb,h.fr.later hb,xah h.bel hb⟩
theorem pcL {a b:Addr}{y z:Value}{W W':World}(h:W.cell? a=some y/\W.cell? b=some z/\PcS p T1 K w wr mb m d f hv sv ov av kv st W)(hb:Below W.heap.size W W'):W'.cell? a=some y/\W'.cell? b=some z/\PcS p T1 K w wr mb m d f hv sv ov av kv st W':=pcS h.1 h.2.1 h.2.2 hb
theorem BdR.set_res (hR:BdR p d T w mb K R av kv gk at' T1 m f 0 wr){T2:Nat->Nat}{W2:World}(hE:Ext T1 T2 wr)(hK:Kp (All K) T1 wr W2)(hM:RMac p T2 W2 mb m (20-(d:Int)) 0 hv sv ov){v:QV}(hV:R=(m,v,0)):xaS p T w mb (20-(d:Int)) K R (.returned (VV v)) ((W2.setCell ⟨w.heap.size+2,0,none⟩ (.int .i64 v.k)).setCell ⟨w.heap.size+2,1,none⟩ (.int .i64 v.n)):=by
 have hp:=hR.pos;have ht:T2 (w.heap.size+2)=4:=by rw[hE _ (xaf hR.res)];exact hR.tres
 have k4:Kp (fun t=>t=4) T2 W2 ((W2.setCell ⟨w.heap.size+2,0,none⟩ (.int .i64 v.k)).setCell ⟨w.heap.size+2,1,none⟩ (.int .i64 v.n)):=((Kp.refl (fun t=>t=4) T2 W2).set (b:=w.heap.size+2) (fun _=>ht) _ _).set (b:=w.heap.size+2) (fun _=>ht) _ _
 have k0:Kp (All K) T w W2:=hR.kp.trans hR.ext hK;subst hV;refine⟨rfl,⟨T2,_,_,_,hR.ext.trans hR.kp.size hE,hM.keep (.refl _ _) k4 (by omega) (by omega) (by omega) (by omega)⟩,(k0.set (fun h=>by omega) _ _).set (fun h=>by omega) _ _⟩
theorem xoc (hR:BdR p d T w mb K R av kv gk at' T1 m f 0 wr)(hg:gk=G'+1)(hx:NxOk f k x)(hop:x.op=17):R=(m,f.top,0):=by
 obtain⟨-,-,-,-,-,hval,-⟩:=hR.min rfl;rw[← hval,hg]
 conv=>lhs;unfold xcL
 rw[hx.pc,if_neg (by omega)]
 simp only[Int.toNat_natCast,hx.here];rw[if_pos hop]
theorem xoB (hR:BdR p d T w mb K R av kv gk at' T1 m f 0 wr){W2:World}(hK:Kp (All K) T1 wr W2):(W2.cell? ⟨w.heap.size+2,0,none⟩=some (.int .i64 0)/\W2.cell? ⟨w.heap.size+2,1,none⟩=some (.int .i64 0))/\∀ o,W2.frozen? ⟨w.heap.size+2,o,none⟩=false:=by
 have hp:=hR.pos;have hb:=hK.held hR.res (by rw[hR.tres];unfold All;omega)
 exact⟨⟨by rw[qzB hb];rfl,by rw[qzB hb];rfl⟩,xam hb⟩
theorem xbK (ent:Ent RSt)(E:Env RSt)(hop:9<=x.op):xan ent E d m { f with pc:=f.pc+1 } f.pc x=xcy ent E d m { f with pc:=f.pc+1 } f.pc x:=by
 have hpu:xaA m.heap { f with pc:=f.pc+1 } x=none:=by
  unfold xaA;rw[if_neg (by omega),if_neg (by omega),if_neg (by omega),if_neg (by omega),if_neg (by omega),if_neg (by omega),if_neg (by omega),if_neg (by omega)]
 unfold xan xcy;rw[hpu]
theorem xcj (hX:Rx p)(hR:BdR p d T w mb K R av kv gk at' T1 m f 0 wr)(hg:gk=G'+1)(hx:NxOk f k x)(h17:x.op≠17){r:Mc RSt × Fr × Int}(hr:xan (xa1 p.E d) p.E d m { f with pc:=f.pc+1 } f.pc x=r){T2:Nat->Nat}{W2:World}(hE:Ext T1 T2 wr)(hK:Kp (All K) T1 wr W2)(hM:RMac p T2 W2 mb r.1 (20-(d:Int)) r.2.2 hv sv ov)(hF:r.2.2=0->∃ st,RF T2 K W2 w.heap.size r.2.1 av kv st)(hpc:r.2.2=0->r.2.1.pc=(k:Int)+1)(hL:r.2.2=0->xiO c n1 n2 n3 r.2.1) :
  BdX p d T w mb K R av kv c n1 n2 n3 G' (.int .i64 ((k:Int)+1)) W2:=
 ⟨_,_,_,_,hR.next hX hg hx h17 hr hE hK hM hF (fun h=>by rw[hpc h]),hL⟩
end
theorem xbv {P:Program}{ops:Array Oper}{o:Oper}{a:Act}{w:World}{K:Act->World->Prop}{Q:Exit->Act->World->Prop}{E:Prop}(hg:o.guard=none)(fn:Nat)(cal:Operand)(args:Array Operand)(tys:Array TypeId)(hop:o.op=Op.call { callee:=Callee.value cal,args:=args,argTypes:=tys })
  (caps:Array Value) (hcal:a.eval cal=.func (.func fn) #[] caps) (vs:Array Value) (hvs:args.map a.eval=vs) (hcf:(callFunc fn (vs++caps)).run P w=.ok (.enter fn (vs++caps)) w) (hc:Calls P fn (vs++caps) w fun e w'=>∃ v,e=.returned v/\K (a.put o.dst v) w'):if Region.wanted o (yielded ops a.tmps)=true then Oper.wp P o a w K Q else E:=by
 have hw:Region.wanted o (yielded ops a.tmps)=true:=by simp[Region.wanted,hg]
 rw[if_pos hw];unfold Oper.wp
 have hr:(execOp a.eval o).run P w=.ok (.enter fn (vs++caps)) w:=by
  simp[execOp,hop,resolve,invoke,hcal,hvs,Deferred.ofValue]
  exact hcf
 rw[hr,Oper.upon_enter];refine hc.mono ?_;rintro e w' ⟨v,rfl,h⟩
 exact h
theorem xhd {fn:Nat}{f:Func}(hf:Tryz.prog.funcs[fn]?=some f)(hn:(f.name == "runtime.NumGoroutine")=false)(hb:f.body.isSome=true)(args:Array Value)(w:World):(callFunc fn args).run Tryz.prog w=.ok (.enter fn args) w:=by
 have h1:¬ f.name = "runtime.NumGoroutine" := by simpa using hn
 have h2:¬ f.body=none:=by intro h;rw[h] at hb;cases hb
 simp[callFunc,hf,h1,h2]
theorem cf46 (args:Array Value)(w:World):(callFunc 67 args).run Tryz.prog w=.ok (.enter 67 args) w:=xhd Tryz.func67 (by kernel_rfl) (by kernel_rfl) args w
theorem cf48 (args:Array Value)(w:World):(callFunc 69 args).run Tryz.prog w=.ok (.enter 69 args) w:=xhd Tryz.func69 (by kernel_rfl) (by kernel_rfl) args w
theorem cf47 (args:Array Value)(w:World):(callFunc 68 args).run Tryz.prog w=.ok (.enter 68 args) w:=xhd Tryz.func68 (by kernel_rfl) (by kernel_rfl) args w
theorem cf49 (args:Array Value)(w:World):(callFunc 70 args).run Tryz.prog w=.ok (.enter 70 args) w:=xhd Tryz.func70 (by kernel_rfl) (by kernel_rfl) args w
theorem cf17 (args:Array Value)(w:World):(callFunc 16 args).run Tryz.prog w=.ok (.enter 16 args) w:=xhd Tryz.func16 (by kernel_rfl) (by kernel_rfl) args w
theorem cf22 (args:Array Value)(w:World):(callFunc 19 args).run Tryz.prog w=.ok (.enter 19 args) w:=xhd Tryz.func19 (by kernel_rfl) (by kernel_rfl) args w
theorem cf23 (args:Array Value)(w:World):(callFunc 34 args).run Tryz.prog w=.ok (.enter 34 args) w:=xhd Tryz.func34 (by kernel_rfl) (by kernel_rfl) args w
theorem cf24 (args:Array Value)(w:World):(callFunc 35 args).run Tryz.prog w=.ok (.enter 35 args) w:=xhd Tryz.func35 (by kernel_rfl) (by kernel_rfl) args w
theorem xmr {w:World}{l:List Int}(hl:l.length<=1000)(n:Nat)(hn:w.heap.size=n):xiS (fun b=>n<=b) (w.alloc (.cells (xcg l).toArray 3 (0,0))) (.slice (some ⟨n,0,none⟩) l.length l.length) l:=
 Cells.row (xi2 l) xlb (qzC _) (xba _ _ _ hn) (by rw[List.take_of_length_le (by simp[xcg])];simp[xcg]) (qzC _) (by unfold maxLen;omega) (by omega)
def NextP (w:World)(x:QI)(p:Int)(e:Ending)(w':World):Prop:=
 ∃ a k,e=.returned (.tuple #[.int .i64 (xaN x p).need,.int .i64 (xaN x p).more,.slice a (xaN x p).next.length k])/\xiS (fun b=>w.heap.size<=b) w' (.slice a (xaN x p).next.length k) (xaN x p).next/\Below w.heap.size w w'
theorem NextP.mk {w W:World}{x:QI}{p need more:Int}{l:List Int}{e:Ending}{n:Nat}(h:xaN x p=⟨need,more,l⟩)(hn:W.heap.size=n)(hl:l.length<=1000)(hw:w.heap.size<=n)(he:e=.returned (.tuple #[.int .i64 need,.int .i64 more,.slice (some ⟨n,0,none⟩) l.length l.length]))(hb:Below w.heap.size w W):NextP w x p e (W.alloc (.cells (xcg l).toArray 3 (0,0))):=by
 unfold NextP;rw[h]
 exact⟨_,_,he,(xmr hl n hn).mono xlb fun b hb=>by omega,hb.alloc (by omega) _⟩
theorem NextP.drew {w w':World}{x:QI}{p:Int}{e:Ending}(h:NextP w x p e w'):NextP w x p e w'.drew:=by
 obtain⟨a,k,h1,h2,h3⟩:=h
 exact⟨a,k,h1,h2.later xlb (qzL _ _).drew,h3.drew⟩
theorem xlr (x:QI)(p:Int)(w:World)(hx:x.op=14->0<=x.a/\x.a<=4)(hp:IntKind.i64.wrap (p+1)=p+1):Calls Tryz.prog 53 #[IV x,.int .i64 p] w fun e w'=>NextP w x p e w':=by
 obtain⟨op,xa,xb,xc,nm⟩:=x;simp only at hx;have hb1:=xaj w (Obj.cells #[.int .i64 op,.int .i64 xa,.int .i64 xb,.int .i64 xc,.string nm] 76);go_enter Tryz.func53,Tryz.ntmps53
 by_cases h1:op=9\/op=11\/op=12
 ·rcases h1 with rfl | rfl | rfl
  all_goals
   go_wp2;refine qzK (v:=.tuple #[.int .i64 1,.int .i64 (-1),.slice (some ⟨w.heap.size+1,0,none⟩) 1 1]) (by simp[results,Tryz.results53,go_sem]) rfl (NextP.mk (l:=[p+1]) (by simp[xaN]) (by simp) (by simp) (by omega) rfl (xaj _ _))
 ·by_cases h2:op=10
  ·subst h2;go_wp2;refine qzK (v:=.tuple #[.int .i64 (1),.int .i64 (1),.slice (some ⟨w.heap.size+1,0,none⟩) 1 1]) (by simp[results,Tryz.results53,go_sem]) rfl (NextP.mk (l:=[p+1]) (by simp[xaN]) (by simp) (by simp) (by omega) rfl (xaj _ _))
  ·by_cases h3:op=14
   ·subst h3;obtain⟨q1,q2⟩:=hx rfl;have hw1:IntKind.i64.wrap (xa+1)=xa+1:=xaE (by omega) (by omega)
    have hw2:IntKind.i64.wrap (-xa)=-xa:=xaE (by omega) (by omega)
    go_wp2
    go_region
    all_goals go_wp2
    all_goals refine qzK (v:=.tuple #[.int .i64 (xa+1),.int .i64 (-xa),.slice (some ⟨w.heap.size+1,0,none⟩) 1 1]) (by simp[results,Tryz.results53,go_sem]) rfl ?_
    all_goals exact (NextP.mk (l:=[p+1]) (by simp[xaN]) (by simp) (by simp) (by omega) rfl (xaj _ _)).drew
   ·by_cases h4:op=15
    ·subst h4;go_wp2
     go_region
     all_goals go_wp2
     all_goals refine qzK (v:=.tuple #[.int .i64 0,.int .i64 0,.slice (some ⟨w.heap.size+1,0,none⟩) 1 1]) (by simp[results,Tryz.results53,go_sem]) rfl ?_
     all_goals exact (NextP.mk (l:=[xa]) (by simp[xaN]) (by simp) (by simp) (by omega) rfl (xaj _ _)).drew
    ·by_cases h5:op=16
     ·subst h5;go_wp2
      go_region
      all_goals go_wp2
      all_goals refine qzK (v:=.tuple #[.int .i64 1,.int .i64 (-1),.slice (some ⟨w.heap.size+1,0,none⟩) 2 2]) (by simp[results,Tryz.results53,go_sem]) rfl ?_
      all_goals exact (NextP.mk (l:=[p+1,xa]) (by simp[xaN]) (by simp) (by simp) (by omega) rfl (xaj _ _)).drew
     ·by_cases h6:op=17
      ·subst h6;go_wp2;refine qzK (v:=.tuple #[.int .i64 1,.int .i64 (-1),.slice none 0 0]) (by simp[results,Tryz.results53,go_sem]) rfl ?_
       unfold NextP;rw[show xaN ⟨17,xa,xb,xc,nm⟩ p=⟨1,-1,[]⟩ from by simp[xaN]]
       exact⟨none,0,rfl,xbG,xaj _ _⟩
      ·have n1:¬ op=9:=fun h=>h1 (Or.inl h)
       have n2:¬ op=11:=fun h=>h1 (Or.inr (Or.inl h))
       have n3:¬ op=12:=fun h=>h1 (Or.inr (Or.inr h))
       go_wp2;refine qzK (v:=.tuple #[.int .i64 0,.int .i64 1,.slice (some ⟨w.heap.size+1,0,none⟩) 1 1]) (by simp[results,Tryz.results53,go_sem]) rfl (NextP.mk (l:=[p+1]) (by simp[xaN,h2,h3,h4,h5,h6,n1,n2,n3]) (by simp) (by simp) (by omega) rfl (xaj _ _))
end Go.Proofs.YtapbeiccodnniaaGreat
