/- A part. -/
import Derived.Test.YtaodadfahifbpaaGreatQ12
import Derived.OneCell
import Derived.Laws.OwnMore
namespace Go.Proofs.YtaodadfahifbpaaGreat
open Go.ChangeShapes Go.WideShapes Go.ChangeAt Go.RowKit
set_option linter.unusedSimpArgs false
set_option linter.unusedVariables false
set_option maxHeartbeats 8000000
set_option maxRecDepth 8000
abbrev RSt:=List (QS × Int)
def xcX (X:QW)(fuel:Int):Env RSt:=⟨X.cz,fuel,fun l s c name=>(l++[(s,c)],xaB X.cz c name),xgC⟩
def xcS:RSt->List Value
 | []=>[]
 | p :: r=>.int .i64 p.1.cls :: .string p.1.name :: .int .i64 p.1.at' :: xcS r
def xcC:RSt->List Value
 | []=>[]
 | p :: r=>.int .i64 p.2 :: xcC r
theorem xeS:∀ q r,xcS (q++r)=xcS q++xcS r
 | [],r=>rfl
 | p :: q,r=>by simp[xcS,xeS q r]
theorem xeT:∀ q r,xcC (q++r)=xcC q++xcC r
 | [],r=>rfl
 | p :: q,r=>by simp[xcC,xeT q r]
structure Rp where
 X:QW
 fuel:Int
 cv:Value
abbrev RB (p:Rp)(m:Mc RSt)(deep err:Int)(hv sv ov:Value):Obj:=.cells #[p.cv,hv,.int .i64 p.X.ez,.int .i64 p.fuel,.int .i64 m.sz_,.int .i64 m.tz,.int .i64 deep,.int .i64 err,sv,ov] 91 (0,0)
structure RMac (p:Rp)(T:Nat->Nat)(w:World)(mb:Nat)(m:Mc RSt)(deep err:Int)(hv sv ov:Value):Prop where
 box:w.heap[mb]?=some (RB p m deep err hv sv ov)
 tag:T mb=1
 cls:xai (Fx T w) w p.cv p.X.cz
 heap:xaD (Fx T w) w hv m.heap
 sites:ownsAt w 0 63 3 sv m.st.length (xcS m.st)
 stag:∀ g,sv.ownBlock=some g->T g=2
 of:ownsAt w 0 3 1 ov m.st.length (xcC m.st)
 otag:∀ g,ov.ownBlock=some g->T g=3
section
variable {p:Rp} {T T':Nat->Nat} {w w':World} {mb:Nat} {m m':Mc RSt} {deep err deep' err':Int} {hv sv ov:Value}
theorem RMac.keep {S:Nat->Prop}(h:RMac p T w mb m deep err hv sv ov)(e:Ext T T' w)(k:Kp S T w w')(h0:¬ S 0)(h1:¬ S 1)(h2:¬ S 2)(h3:¬ S 3):RMac p T' w' mb m deep err hv sv ov:=
 ⟨k.held h.box (by rw[h.tag];exact h1),by rw[e _ (xal h.box)];exact h.tag,h.cls.fx xaA e k h0,h.heap.fx xaE e k h0,h.sites.keep fun g hg=>k.blk g (h.sites.lt g hg).2 (by rw[h.stag g hg];exact h2),fun g hg=>by rw[e _ (h.sites.lt g hg).2];exact h.stag g hg,h.of.keep fun g hg=>k.blk g (h.of.lt g hg).2 (by rw[h.otag g hg];exact h3),fun g hg=>by rw[e _ (h.of.lt g hg).2];exact h.otag g hg⟩
theorem RMac.later (h:RMac p T w mb m deep err hv sv ov)(hb:Below w.heap.size w w'):RMac p T w' mb m deep err hv sv ov:=h.keep (S:=fun _=>False) (.refl _ _) (.of_below hb) id id id id
theorem RMac.turn (h:RMac p T w mb m deep err hv sv ov)(k:Kp (fun t=>t=1) T w w')(hb:w'.heap[mb]?=some (RB p m' deep' err' hv sv ov))(e:m'.heap=m.heap)(e2:m'.st=m.st):RMac p T w' mb m' deep' err' hv sv ov:=by
 refine⟨hb,h.tag,h.cls.fx xaA (.refl _ _) k (by omega),by rw[e];exact h.heap.fx xaE (.refl _ _) k (by omega),?_,h.stag,?_,h.otag⟩
 ·rw[e2];exact h.sites.keep fun g hg=>k.blk g (h.sites.lt g hg).2 (by rw[h.stag g hg];omega)
 ·rw[e2];exact h.of.keep fun g hg=>k.blk g (h.of.lt g hg).2 (by rw[h.otag g hg];omega)
theorem RMac.c0 (h:RMac p T w mb m deep err hv sv ov):w.cell? ⟨mb,0,none⟩=some p.cv:=by rw[qzB h.box];rfl
theorem RMac.c1 (h:RMac p T w mb m deep err hv sv ov):w.cell? ⟨mb,1,none⟩=some hv:=by rw[qzB h.box];rfl
theorem RMac.c2 (h:RMac p T w mb m deep err hv sv ov):w.cell? ⟨mb,2,none⟩=some (.int .i64 p.X.ez):=by rw[qzB h.box];rfl
theorem RMac.c3 (h:RMac p T w mb m deep err hv sv ov):w.cell? ⟨mb,3,none⟩=some (.int .i64 p.fuel):=by rw[qzB h.box];rfl
theorem RMac.c4 (h:RMac p T w mb m deep err hv sv ov):w.cell? ⟨mb,4,none⟩=some (.int .i64 m.sz_):=by rw[qzB h.box];rfl
theorem RMac.c5 (h:RMac p T w mb m deep err hv sv ov):w.cell? ⟨mb,5,none⟩=some (.int .i64 m.tz):=by rw[qzB h.box];rfl
theorem RMac.c6 (h:RMac p T w mb m deep err hv sv ov):w.cell? ⟨mb,6,none⟩=some (.int .i64 deep):=by rw[qzB h.box];rfl
theorem RMac.c7 (h:RMac p T w mb m deep err hv sv ov):w.cell? ⟨mb,7,none⟩=some (.int .i64 err):=by rw[qzB h.box];rfl
theorem RMac.c8 (h:RMac p T w mb m deep err hv sv ov):w.cell? ⟨mb,8,none⟩=some sv:=by rw[qzB h.box];rfl
theorem RMac.c9 (h:RMac p T w mb m deep err hv sv ov):w.cell? ⟨mb,9,none⟩=some ov:=by rw[qzB h.box];rfl
theorem xpV (h:w.heap[mb]?=some (RB p m deep err hv sv ov))(n:Int):(w.setCell ⟨mb,4,none⟩ (.int .i64 n)).heap[mb]?=some (RB p { m with sz_:=n } deep err hv sv ov):=by rw[xag h];rfl
theorem xp2 (h:w.heap[mb]?=some (RB p m deep err hv sv ov))(n:Int):(w.setCell ⟨mb,5,none⟩ (.int .i64 n)).heap[mb]?=some (RB p { m with tz:=n } deep err hv sv ov):=by rw[xag h];rfl
theorem xqX (h:w.heap[mb]?=some (RB p m deep err hv sv ov))(n:Int):(w.setCell ⟨mb,6,none⟩ (.int .i64 n)).heap[mb]?=some (RB p m n err hv sv ov):=by rw[xag h];rfl
theorem xpR (h:w.heap[mb]?=some (RB p m deep err hv sv ov))(n:Int):(w.setCell ⟨mb,7,none⟩ (.int .i64 n)).heap[mb]?=some (RB p m deep n hv sv ov):=by rw[xag h];rfl
theorem xnH (h:w.heap[mb]?=some (RB p m deep err hv sv ov))(xs:List QO)(hv':Value):(w.setCell ⟨mb,1,none⟩ hv').heap[mb]?=some (RB p { m with heap:=xs } deep err hv' sv ov):=by rw[xag h];rfl
theorem xqg (h:w.heap[mb]?=some (RB p m deep err hv sv ov))(sv':Value):(w.setCell ⟨mb,8,none⟩ sv').heap[mb]?=some (RB p m deep err hv sv' ov):=by rw[xag h];rfl
theorem xqA (h:w.heap[mb]?=some (RB p m deep err hv sv ov))(l:RSt)(ov':Value):(w.setCell ⟨mb,9,none⟩ ov').heap[mb]?=some (RB p { m with st:=l } deep err hv sv ov'):=by rw[xag h];rfl
theorem RMac.num4 (h:RMac p T w mb m deep err hv sv ov)(n:Int):RMac p T (w.setCell ⟨mb,4,none⟩ (.int .i64 n)) mb { m with sz_:=n } deep err hv sv ov:=h.turn ((Kp.refl _ _ _).set (fun _=>h.tag) _ _) (xpV h.box n) rfl rfl
theorem RMac.num5 (h:RMac p T w mb m deep err hv sv ov)(n:Int):RMac p T (w.setCell ⟨mb,5,none⟩ (.int .i64 n)) mb { m with tz:=n } deep err hv sv ov:=h.turn ((Kp.refl _ _ _).set (fun _=>h.tag) _ _) (xp2 h.box n) rfl rfl
theorem RMac.num6 (h:RMac p T w mb m deep err hv sv ov)(n:Int):RMac p T (w.setCell ⟨mb,6,none⟩ (.int .i64 n)) mb m n err hv sv ov:=h.turn ((Kp.refl _ _ _).set (fun _=>h.tag) _ _) (xqX h.box n) rfl rfl
theorem RMac.num7 (h:RMac p T w mb m deep err hv sv ov)(n:Int):RMac p T (w.setCell ⟨mb,7,none⟩ (.int .i64 n)) mb m deep n hv sv ov:=h.turn ((Kp.refl _ _ _).set (fun _=>h.tag) _ _) (xpR h.box n) rfl rfl
theorem kp1 (h:RMac p T w mb m deep err hv sv ov)(o:Nat)(v:Value):Kp (fun t=>t=1) T w (w.setCell ⟨mb,o,none⟩ v):=(Kp.refl _ _ _).set (fun _=>h.tag) _ _
end
structure RF (T:Nat->Nat)(K:Nat)(w:World)(B:Nat)(f:Fr)(av kv sv:Value):Prop where
 m0:w.heap[B]?=some (.cells #[.string f.meth.name,.int .i64 f.meth.args,.int .i64 f.meth.temps,.int .i64 f.meth.prim,kv] 59 (0,0))
 s0:w.heap[B+1]?=some (.cells #[.int .i64 f.self.k,.int .i64 f.self.n] 27 (0,0))
 tm:w.heap[B+3]?=some (.cells (xam f.temps).toArray 27 (0,0))
 sb:w.heap[B+4]?=some (.cells #[sv] 28 (0,0))
 tB:T B=4
 t1:T (B+1)=4
 t3:T (B+3)=K+1
 t4:T (B+4)=K
 stack:ownsAt w 0 27 2 sv f.stack.length (xam f.stack)
 stag:∀ g,sv.ownBlock=some g->T g=K+2
 few:f.stack.length<=1000000
 args:xaO (Fx T w) w av f.args
 code:xaR (Fx T w) w kv f.code
 pos:5<=K
section
variable {T T':Nat->Nat} {K:Nat} {w w':World} {B:Nat} {f f':Fr} {av kv sv:Value}
theorem RF.keep {S:Nat->Prop}(h:RF T K w B f av kv sv)(e:Ext T T' w)(k:Kp S T w w')(h0:¬ S 0)(h4:¬ S 4)(hK:¬ S K)(h1:¬ S (K+1))(h2:¬ S (K+2)):RF T' K w' B f av kv sv:=
 ⟨k.held h.m0 (by rw[h.tB];exact h4),k.held h.s0 (by rw[h.t1];exact h4),k.held h.tm (by rw[h.t3];exact h1),k.held h.sb (by rw[h.t4];exact hK),by rw[e _ (xal h.m0)];exact h.tB,by rw[e _ (xal h.s0)];exact h.t1,by rw[e _ (xal h.tm)];exact h.t3,by rw[e _ (xal h.sb)];exact h.t4,
  h.stack.keep fun g hg=>k.blk g (h.stack.lt g hg).2 (by rw[h.stag g hg];exact h2),fun g hg=>by rw[e _ (h.stack.lt g hg).2];exact h.stag g hg,h.few,h.args.fx xa1 e k h0,h.code.fx xa2 e k h0,h.pos⟩
theorem RF.later (h:RF T K w B f av kv sv)(hb:Below w.heap.size w w'):RF T K w' B f av kv sv:=h.keep (S:=fun _=>False) (.refl _ _) (.of_below hb) id id id id id
theorem RF.at (h:RF T K w B f av kv sv)(n:Int):RF T K w B { f with pc:=n } av kv sv:=⟨h.m0,h.s0,h.tm,h.sb,h.tB,h.t1,h.t3,h.t4,h.stack,h.stag,h.few,h.args,h.code,h.pos⟩
theorem RF.k0 (h:RF T K w B f av kv sv):w.cell? ⟨B,0,none⟩=some (.string f.meth.name):=by rw[qzB h.m0];rfl
theorem RF.k4 (h:RF T K w B f av kv sv):w.cell? ⟨B,4,none⟩=some kv:=by rw[qzB h.m0];rfl
theorem RF.v0 (h:RF T K w B f av kv sv):w.cell? ⟨B+1,0,none⟩=some (.int .i64 f.self.k):=by rw[qzB h.s0];rfl
theorem RF.v1 (h:RF T K w B f av kv sv):w.cell? ⟨B+1,1,none⟩=some (.int .i64 f.self.n):=by rw[qzB h.s0];rfl
theorem RF.st (h:RF T K w B f av kv sv):w.cell? ⟨B+4,0,none⟩=some sv:=by rw[qzB h.sb];rfl
theorem RF.sf (h:RF T K w B f av kv sv)(o:Nat):w.frozen? ⟨B+4,o,none⟩=false:=xap h.sb o
theorem xmF (h:w.heap[B+4]?=some (.cells #[sv] 28 (0,0)))(sv':Value):(w.setCell ⟨B+4,0,none⟩ sv').heap[B+4]?=some (.cells #[sv'] 28 (0,0)):=by rw[xag h];rfl
theorem RF.stacked {sv':Value}{l:List QV}(h:RF T K w B f av kv sv)(e:Ext T T' w)(k:Kp (fun t=>t=K\/t=K+2) T w w')(hb:w'.heap[B+4]?=some (.cells #[sv'] 28 (0,0)))(ho:ownsAt w' 0 27 2 sv' l.length (xam l))(hg:∀ g,sv'.ownBlock=some g->T' g=K+2)(hl:l.length<=1000000):RF T' K w' B { f with stack:=l } av kv sv':=by
 have hp:=h.pos
 exact⟨k.held h.m0 (by rw[h.tB];omega),k.held h.s0 (by rw[h.t1];omega),k.held h.tm (by rw[h.t3];omega),hb,by rw[e _ (xal h.m0)];exact h.tB,by rw[e _ (xal h.s0)];exact h.t1,by rw[e _ (xal h.tm)];exact h.t3,by rw[e _ (xal h.sb)];exact h.t4,ho,hg,hl,h.args.fx xa1 e k (by omega),h.code.fx xa2 e k (by omega),hp⟩
theorem RF.pushed {U:World}{sv':Value}{vs:List QV}(h:RF T K w B f av kv sv)(hU:Below w.heap.size w U)(hn:(f.stack++vs).length<=1000000)
  (r1:ownsAt w' 0 27 2 sv' (f.stack++vs).length (xam f.stack++xam vs)) (r2:sv'.ownBlock=sv.ownBlock\/∃ g,sv'.ownBlock=some g/\U.heap.size<=g) (r3:Below 0 U w') (r4:∀ b,b<U.heap.size->some b≠sv.ownBlock->w'.heap[b]?=U.heap[b]?) :
  (∃ T',Ext T T' w/\RF T' K (w'.setCell ⟨B+4,0,none⟩ sv') B { f with stack:=f.stack++vs } av kv sv')/\Kp (fun t=>t=K\/t=K+2) T w (w'.setCell ⟨B+4,0,none⟩ sv'):=by
 have hlt:=xal h.sb;have hp:=h.pos
 have kU:Kp (fun t=>t=K\/t=K+2) T w w':=⟨r3.os.trans hU.os,r3.tape.trans hU.tape,r3.output.trans hU.output,qzD hU.size r3.size,fun b hb hs=>by
  rw[r4 b (qzE hb hU.size) (fun e=>hs (Or.inr (h.stag b e.symm))),hU.block b hb]⟩
 have k:=kU.set (b:=B+4) (fun _=>Or.inl h.t4) 0 sv'
 obtain⟨T',hT,hg⟩:∃ T',Ext T T' w/\∀ g,sv'.ownBlock=some g->T' g=K+2:=by
  rcases r2 with e | ⟨g,e,hg⟩
  ·exact⟨T,.refl _ _,fun g hg=>h.stag g (by rw[← e];exact hg)⟩
  ·exact⟨xjd T g (K+2),xez (qzD hU.size hg),fun g' h'=>by rw[e] at h';cases h';exact xdI _ _ _⟩
 have hnb:some (B+4)≠sv.ownBlock:=fun e=>by have:=h.stag (B+4) e.symm;rw[h.t4] at this;omega
 have hbx:w'.heap[B+4]?=some (.cells #[sv] 28 (0,0)):=by rw[r4 _ (qzE hlt hU.size) hnb,hU.block _ hlt];exact h.sb
 refine⟨⟨T',hT,h.stacked hT k (xmF hbx sv') ?_ hg hn⟩,k⟩;rw[xcA]
 exact r1.keep fun g hg'=>xac (fun e=>by have:=hg g hg';rw[e,hT _ hlt,h.t4] at this;omega) _
theorem RF.cut {a:Option Addr}{cap n:Nat}(h:RF T K w B f av kv (.slice a f.stack.length cap))(hn:n<=f.stack.length)(k:Kp (fun t=>t=K) T w w')(hb:w'.heap[B+4]?=some (.cells #[.slice a n cap] 28 (0,0))):RF T K w' B { f with stack:=f.stack.take n } av kv (.slice a n cap):=by
 have hfew:=h.few;have hl:(f.stack.take n).length=n:=by rw[List.length_take];omega
 have ho:∀ g,(Value.slice a n cap).ownBlock=some g->T g=K+2:=fun g hg=>h.stag g (by cases a<;>exact hg)
 refine h.stacked (.refl _ _) (k.mono fun t h=>Or.inl h) hb ?_ ho (by omega)
 rw[hl];have:=h.stack.take hn
 exact this.keep fun g hg=>k.blk g (this.lt g hg).2 (by rw[ho g hg];omega)
theorem RF.temped (h:RF T K w B f av kv sv)(j:Nat)(v:QV):RF T K ((w.setCell ⟨B+3,j*2,none⟩ (.int .i64 v.k)).setCell ⟨B+3,j*2+1,none⟩ (.int .i64 v.n)) B { f with temps:=f.temps.set j v } av kv sv/\Kp (fun t=>t=K+1) T w ((w.setCell ⟨B+3,j*2,none⟩ (.int .i64 v.k)).setCell ⟨B+3,j*2+1,none⟩ (.int .i64 v.n)):=by
 have hp:=h.pos;have k:Kp (fun t=>t=K+1) T w ((w.setCell ⟨B+3,j*2,none⟩ (.int .i64 v.k)).setCell ⟨B+3,j*2+1,none⟩ (.int .i64 v.n)):=((Kp.refl (fun t=>t=K+1) T w).set (b:=B+3) (fun _=>h.t3) _ _).set (b:=B+3) (fun _=>h.t3) _ _
 exact⟨⟨k.held h.m0 (by rw[h.tB];omega),k.held h.s0 (by rw[h.t1];omega),xkM h.tm j v,k.held h.sb (by rw[h.t4];omega),h.tB,h.t1,h.t3,h.t4,h.stack.keep fun g hg=>k.blk g (h.stack.lt g hg).2 (by rw[h.stag g hg];omega),h.stag,h.few,h.args.fx xa1 (.refl _ _) k (by omega),h.code.fx xa2 (.refl _ _) k (by omega),hp⟩,k⟩
theorem xfj (h:RF T K w B f av kv sv)(hn:0<f.stack.length):Calls Tryz.prog 71 #[.pointer (some ⟨B+4,0,none⟩)] w fun e w'=>e=.returned (VV f.top)/\(∃ sv',RF T K w' B f.pop av kv sv')/\Kp (fun t=>t=K\/t=K+2) T w w':=by
 have hlt:=xal h.sb;have hfew:=h.few;have hb1:=xbP w (.cells #[.int .i64 0,.int .i64 0] 27) (.cells #[.int .i64 f.top.k,.int .i64 f.top.n] 27);have hb0:=xak w (.cells #[.int .i64 0,.int .i64 0] 27);have h1:=h.later hb0;obtain⟨a,cap,rfl,hc1,hc2⟩:=h.stack.form;obtain⟨m,hm⟩:∃ m,f.stack.length=m+1:=⟨f.stack.length-1,by omega⟩
 have HT:Hid (f.top=f.stack[m]'(by omega)):=by
  show _=_
  unfold Fr.top xaQ xaM;rw[if_neg (by omega)]
  simp[hm]
 have hx:f.stack[m]?=some f.top:=by rw[HT.out];simp
 have hv:=h1.stack.vals (by omega)
 obtain⟨a',cap',e',-,-,-,hrow⟩:=hv
 cases e'
 obtain⟨b,o,rfl,hbo,y0,y1⟩:=hrow m f.top hx;simp only[Nat.add_zero] at y0;have c0:=h1.st;have HC:=hid (fun (w':World) k hb=>h.cut (n:=m) (w':=w') (by omega) k hb)
 have HK:=hid h.t4;have HP:Hid (f.pop={ f with stack:=f.stack.take m }):=by show _=_;unfold Fr.pop;rw[List.dropLast_eq_take,hm];rfl
 have HB1:=hid hb1;have hsf:=(h.later hb1).sf;have hst:=(h.later hb1).st;have HSB0:=hid (h.later hb1).sb;rw[hm] at c0 hst;have hwm:IntKind.i64.wrap (((m+1:Nat):Int)-1)=(m:Int):=by rw[xat (by omega) (by omega)];omega
 unfold maxLen at hc2;clear hrow h h1 hfew hx;have s0:=xaa (w.alloc (.cells #[.int .i64 0,.int .i64 0] 27)) #[.int .i64 f.top.k,.int .i64 f.top.n] 27 (w.heap.size+1) (by simp) 0
 have s1:=xaa (w.alloc (.cells #[.int .i64 0,.int .i64 0] 27)) #[.int .i64 f.top.k,.int .i64 f.top.n] 27 (w.heap.size+1) (by simp) 1
 have r0:=qzA (xak (w.alloc (.cells #[.int .i64 0,.int .i64 0] 27)) (.cells #[.int .i64 f.top.k,.int .i64 f.top.n] 27)) (show (w.alloc (.cells #[.int .i64 0,.int .i64 0] 27)).cell? ⟨w.heap.size,0,none⟩=some (.int .i64 0) from xaa _ _ _ _ rfl 0)
 have r1:=qzA (xak (w.alloc (.cells #[.int .i64 0,.int .i64 0] 27)) (.cells #[.int .i64 f.top.k,.int .i64 f.top.n] 27)) (show (w.alloc (.cells #[.int .i64 0,.int .i64 0] 27)).cell? ⟨w.heap.size,1,none⟩=some (.int .i64 0) from xaa _ _ _ _ rfl 1)
 have rf:∀ o,((w.alloc (.cells #[.int .i64 0,.int .i64 0] 27)).alloc (.cells #[.int .i64 f.top.k,.int .i64 f.top.n] 27)).frozen? ⟨w.heap.size,o,none⟩=false:=fun o=>((xak _ _).frozen (p:=⟨w.heap.size,o,none⟩) (by simp)).trans (xap (qzJ w (.cells #[.int .i64 0,.int .i64 0] 27)) o)
 go_enter Tryz.func71,Tryz.ntmps71
 go_upto_region 2 with (fail)
 generalize ((w.alloc (.cells #[.int .i64 0,.int .i64 0] 27)).alloc (.cells #[.int .i64 f.top.k,.int .i64 f.top.n] 27))=W at *;have n1:¬ B+4=w.heap.size:=by omega
 have n2:¬ w.heap.size=B+4:=by omega
 have n3:¬ B+4=w.heap.size+1:=by omega
 have n4:¬ w.heap.size+1=B+4:=by omega
 simp at s0 s1
 have HSB:Hid (W.heap[B+4]?=some (.cells #[.slice (some ⟨b,o,none⟩) (m+1) cap] 28 (0,0))):=by show _=_;rw[← hm];exact HSB0.out
 go_wp2
 have hk:Kp (fun t=>t=K) T w (((W.setCell ⟨B+4,0,none⟩ (.slice (some ⟨b,o,none⟩) m cap)).setCell ⟨w.heap.size,0,none⟩ (.int .i64 f.top.k)).setCell ⟨w.heap.size,1,none⟩ (.int .i64 f.top.n)):=
  (((Kp.of_below HB1.out).set (fun _=>HK.out) _ _).set (fun h=>absurd h (Nat.lt_irrefl _)) _ _).set (fun h=>absurd h (Nat.lt_irrefl _)) _ _
 have hf:=HC.out _ hk (by rw[xac (by omega),xac (by omega)];exact xmF HSB.out _)
 refine qzK (v:=VV f.top) ?_ rfl ⟨rfl,⟨_,by rw[HP.out];exact hf⟩,hk.mono fun t h=>Or.inl h⟩
 simp[results,Tryz.results71,go_sem,r0,r1,n1,n2]
end
def xn2 (P:Nat->Prop)(w:World)(X:QW)(name:ByteArray)(super slots:Int)(hv:Value)(e:Ending)(w':World):Prop:=
 (xcM X.cz name super slots≠0/\e=.returned (.tuple #[WV (.slice none 0 0) (.slice none 0 0) 0,.int .i64 0,.int .i64 (xcM X.cz name super slots)])\/
  xcM X.cz name super slots=0/\∃ cv',e=.returned (.tuple #[WV cv' hv X.ez,.int .i64 X.cz.length,.int .i64 0])/\xai (fun b=>P b\/w.heap.size<=b) w' cv' (xpN X name super slots).cz)/\Below w.heap.size w w'
theorem xnE {P:Nat->Prop}(X:QW)(name:ByteArray)(super slots:Int)(cv hv:Value)(w:World)(hn:name.size<=140737488351232)(hh:xai P w cv X.cz)(hH:xaD P w hv X.heap)(ho:xbY X.cz):Calls Tryz.prog 12 #[WV cv hv X.ez,.string name,.int .i64 super,.int .i64 slots] w fun e w'=>xn2 P w X name super slots hv e w':=by
 obtain⟨ad,cap,rfl,hl,hcap,hby,hrow⟩:=id hh;obtain⟨ah,ch,rfl,-,-,-,-⟩:=id hH;unfold maxLen at hcap;go_enter Tryz.func12,Tryz.ntmps12;go_wp2_with fail;refine (xeW name _ hn).mono ?_;rintro e w1 ⟨rfl,hb⟩;have hB:=xaf (xbP _ _ _) hb;have a0:w1.cell? ⟨w.heap.size,0,none⟩=some (Value.slice ad X.cz.length cap):=qzA hb (qzA (xak _ _) (by rw[xaa _ _ _ _ rfl];rfl))
 have a1:w1.cell? ⟨w.heap.size,1,none⟩=some (Value.slice ah X.heap.length ch):=qzA hb (qzA (xak _ _) (by rw[xaa _ _ _ _ rfl];rfl))
 have a2:w1.cell? ⟨w.heap.size,2,none⟩=some (Value.int .i64 X.ez):=qzA hb (qzA (xak _ _) (by rw[xaa _ _ _ _ rfl];rfl))
 have r:w1.heap[w.heap.size+1]?=some (.cells #[Value.slice none 0 0,Value.slice none 0 0,Value.int .i64 0] 25 (0,0)):=by rw[hb.block _ (by simp)];exact xbj _ _ _ (by simp)
 have RC:Hid (∀ W:World,Below w1.heap.size w1 W->(∀ o,W.cell? ⟨w.heap.size+1,o,none⟩=(#[Value.slice none 0 0,Value.slice none 0 0,Value.int .i64 0]:Array Value)[o]?)/\(∀ o,W.frozen? ⟨w.heap.size+1,o,none⟩=false)):=fun W hW=>by
  have hr:W.heap[w.heap.size+1]?=some (.cells #[Value.slice none 0 0,Value.slice none 0 0,Value.int .i64 0] 25 (0,0)):=by rw[hW.block _ (xal r)];exact r
  exact⟨fun o=>by rw[qzB hr],fun o=>by unfold World.frozen?;simp[hr]⟩
 have RB:Hid (∀ W:World,Below w1.heap.size w1 W->(∀ o,W.cell? ⟨w.heap.size,o,none⟩=(#[Value.slice ad X.cz.length cap,Value.slice ah X.heap.length ch,Value.int .i64 X.ez]:Array Value)[o]?)/\(∀ o,W.frozen? ⟨w.heap.size,o,none⟩=false)):=fun W hW=>by
  have r1:w1.heap[w.heap.size]?=some (.cells #[Value.slice ad X.cz.length cap,Value.slice ah X.heap.length ch,Value.int .i64 X.ez] 25 (0,0)):=by rw[hb.block _ (by simp;omega),(xak _ _).block _ (by simp)];exact xbj _ _ _ rfl
  have hr:W.heap[w.heap.size]?=some (.cells #[Value.slice ad X.cz.length cap,Value.slice ah X.heap.length ch,Value.int .i64 X.ez] 25 (0,0)):=by rw[hW.block _ (xal r1)];exact r1
  exact⟨fun o=>by rw[qzB hr],fun o=>by unfold World.frozen?;simp[hr]⟩
 cases hnb:xbr name
 ·have HE:Hid (xcM X.cz name super slots=7):=by show _=_;unfold xcM;rw[if_pos (Or.inl hnb)]
  obtain⟨q0,qf⟩:=RC.out _ (qzL _ _);go_wp2;refine qzK (v:=.tuple #[WV (.slice none 0 0) (.slice none 0 0) 0,.int .i64 0,.int .i64 7]) ?_ rfl ⟨Or.inl ⟨by rw[HE.out];decide,by rw[HE.out]⟩,?_⟩
  ·simp[results,Tryz.results12,go_sem,q0,qf]
  ·exact ((hB.setCell (by simp) _).setCell (by simp) _).setCell (by simp) _
 ·go_wp2
  go_loopg [21] X.cz.length (fun g i wr=>∃ j:Nat,j+g=X.cz.length/\i=.int .i64 j/\Below w1.heap.size w1 wr/\(∀ i x,i<j->X.cz[i]?=some x->eqN x.name name=false))
  case atStart=>exact⟨0,by omega,rfl,qzL _ _,fun i x h=>by omega⟩
  case round=>
   obtain⟨j,hg,rfl,hbr,hD⟩:=hrel;have HD:Hid (∀ i x,i<j->X.cz[i]?=some x->eqN x.name name=false):=hD;clear hD;have hBr:=xaf hB hbr
   by_cases hj:j<X.cz.length
   ·obtain⟨x,hx⟩:∃ x,X.cz[j]?=some x:=⟨_,List.getElem?_eq_getElem hj⟩;obtain⟨b,o,rfl,-,v0,v1,v2,-,mv,v3,hM⟩:=hrow j x hx;obtain⟨ad2,cap2,rfl,-⟩:=id hM;have HX:Hid (X.cz[j]?=some x):=hx;have hj1:(j:Int)<(X.cz.length:Int):=by omega
    have hj0:(0:Int)<=(j:Int):=by omega
    clear hx;simp only[Nat.add_zero] at v0;replace v0:=qzA hBr v0;replace v1:=qzA hBr v1;replace v2:=qzA hBr v2;replace v3:=qzA hBr v3;have hB2:=xak wr (Obj.cells #[Value.string x.name,Value.int .i64 x.super,Value.int .i64 x.slots,Value.slice ad2 x.mz.length cap2] 71)
    cases he:eqN x.name name
    ·have he':(x.name.toList == name.toList)=false:=he;go_wp2
     go_roundg (gk-1)
     case measure=>omega
     case rel=>
      refine⟨j+1,by omega,by go_num,xaf hbr hB2,fun i y h hy=>?_⟩
      by_cases hij:i=j
      ·subst hij;rw[HX.out] at hy
       cases hy
       exact he
      ·exact HD.out i y (by omega) hy
    ·have he':(x.name.toList == name.toList)=true:=he
     have HE:Hid (xcM X.cz name super slots=7):=by
      show _=_
      unfold xcM;rw[if_pos (Or.inr _)];unfold xi6;rw[xfG HX.out he HD.out]
      simp
     obtain⟨q0,qf⟩:=RC.out _ (xaf hbr hB2);go_wp2;refine qzK (v:=.tuple #[WV (.slice none 0 0) (.slice none 0 0) 0,.int .i64 0,.int .i64 7]) ?_ rfl ⟨Or.inl ⟨by rw[HE.out];decide,by rw[HE.out]⟩,?_⟩
     ·simp[results,Tryz.results12,go_sem,q0,qf]
     ·exact (((xaf hBr hB2).setCell (by simp) _).setCell (by simp) _).setCell (by simp) _
   ·obtain rfl:j=X.cz.length:=by omega
    have htk:xi6 X.cz name=false:=by
     unfold xi6;rw[xdW fun i y hy=>HD.out i y (xae hy) hy]
     rfl
    have t1:¬ (xbr name=false\/xi6 X.cz name=true):=by rw[hnb,htk];simp
    obtain⟨q0,qf⟩:=RC.out _ hbr;have a0':=qzA hbr a0;have a1':=qzA hbr a1;have a2':=qzA hbr a2
    cases hhas:xgI X.cz.length super
    ·have HE:Hid (xcM X.cz name super slots=6):=by show _=_;unfold xcM;rw[if_neg t1,if_pos hhas]
     have HEND:Hid (∀ W:World,Below w.heap.size w W->xn2 P w X name super slots (.slice ah X.heap.length ch) (.returned (.tuple #[WV (.slice none 0 0) (.slice none 0 0) 0,.int .i64 0,.int .i64 6])) W):=fun W h=>⟨Or.inl ⟨by rw[HE.out];decide,by rw[HE.out]⟩,h⟩
     by_cases h0:super<0
     ·go_wp2;refine qzK (v:=.tuple #[WV (.slice none 0 0) (.slice none 0 0) 0,.int .i64 0,.int .i64 6]) ?_ rfl (HEND.out _ (xbd hBr (by omega) _ _ _))
      simp[results,Tryz.results12,go_sem,q0,qf]
     ·have h0':decide (super<0)=false:=by simpa using h0
      have h1:(X.cz.length:Int)<=super:=by simp[xgI] at hhas;omega
      go_wp2;refine qzK (v:=.tuple #[WV (.slice none 0 0) (.slice none 0 0) 0,.int .i64 0,.int .i64 6]) ?_ rfl (HEND.out _ (xbd hBr (by omega) _ _ _))
      simp[results,Tryz.results12,go_sem,q0,qf]
    ·have HE:Hid (xcM X.cz name super slots=if slots<0\/6-xaY X.cz super<slots\/xgY super=true then 3 else if 12<=X.cz.length then 5 else 0):=by show _=_;unfold xcM;rw[if_neg t1,if_neg (by rw[hhas];simp)]
     have h0:(0:Int)<=super:=by simp[xgI] at hhas;omega
     have h1:super<(X.cz.length:Int):=by simp[xgI] at hhas;omega
     have hsl:0<=xaY X.cz super:=(xcD ho (X.cz.length+1) super 0 (by omega)).1
     have hsl6:xaY X.cz super<=0+6*((X.cz.length+1:Nat):Int):=(xcD ho (X.cz.length+1) super 0 (by omega)).2
     have HEND:Hid (xcM X.cz name super slots=3->∀ W:World,Below w.heap.size w W->xn2 P w X name super slots (.slice ah X.heap.length ch) (.returned (.tuple #[WV (.slice none 0 0) (.slice none 0 0) 0,.int .i64 0,.int .i64 3])) W):=fun he W h=>⟨Or.inl ⟨by rw[he];decide,by rw[he]⟩,h⟩
     by_cases s0:slots<0
     ·go_wp2;refine qzK (v:=.tuple #[WV (.slice none 0 0) (.slice none 0 0) 0,.int .i64 0,.int .i64 3]) ?_ rfl (HEND.out (by rw[HE.out,if_pos (Or.inl s0)]) _ (xbd hBr (by omega) _ _ _))
      simp[results,Tryz.results12,go_sem,q0,qf]
     ·have s0':(0:Int)<=slots:=by omega
      by_cases s6:6<slots
      ·go_wp2;refine qzK (v:=.tuple #[WV (.slice none 0 0) (.slice none 0 0) 0,.int .i64 0,.int .i64 3]) ?_ rfl (HEND.out (by rw[HE.out,if_pos (Or.inr (Or.inl (by omega)))]) _ (xbd hBr (by omega) _ _ _))
       simp[results,Tryz.results12,go_sem,q0,qf]
      ·have s6':slots<=6:=by omega
       go_wp2_with fail;refine (xcB X super _ _ _ (hh.later xaA hBr) (hH.later xaE hBr) ho).mono ?_;rintro e w4 ⟨rfl,hb4⟩;have hb4':=xaf hbr hb4;replace a0':=qzA hb4 a0';replace a1':=qzA hb4 a1';replace a2':=qzA hb4 a2';replace hBr:=xaf hBr hb4;clear q0 qf;obtain⟨q0,qf⟩:=RC.out _ hb4';clear hb4 hbr;have hwr:IntKind.i64.wrap (slots+xaY X.cz super)=slots+xaY X.cz super:=by rw[IntKind.wrap_i64];omega
       by_cases s1:6<slots+xaY X.cz super
       ·go_wp2;refine qzK (v:=.tuple #[WV (.slice none 0 0) (.slice none 0 0) 0,.int .i64 0,.int .i64 3]) ?_ rfl (HEND.out (by rw[HE.out,if_pos (Or.inr (Or.inl (by omega)))]) _ (xbd hBr (by omega) _ _ _))
        simp[results,Tryz.results12,go_sem,q0,qf]
       ·have s1':slots+xaY X.cz super<=6:=by omega
        have s1d:decide (6<slots+xaY X.cz super)=false:=by simpa using s1
        cases hpl:xgY super
        ·have hpl':¬ (0<super/\super<4):=by simp[xgY] at hpl;omega
         have hE2:Hid (xcM X.cz name super slots=if 12<=X.cz.length then 5 else 0):=by
          show _=_
          rw[HE.out,if_neg];rintro (h | h | h)
          ·omega
          ·omega
          ·rw[hpl] at h;cases h
         have pd:decide (0<super)=false\/decide (0<super)=true/\decide (super<4)=false:=by
          by_cases h:0<super
          ·right;exact⟨by simpa using h,by simp;omega⟩
          ·left;simpa using h
         by_cases s2:12<=X.cz.length
         ·have s2':(12:Int)<=(X.cz.length:Int):=by omega
          have HEND5:Hid (∀ W:World,Below w.heap.size w W->xn2 P w X name super slots (.slice ah X.heap.length ch) (.returned (.tuple #[WV (.slice none 0 0) (.slice none 0 0) 0,.int .i64 0,.int .i64 5])) W):=fun W h=>⟨Or.inl ⟨by rw[hE2.out,if_pos s2];decide,by rw[hE2.out,if_pos s2]⟩,h⟩
          rcases pd with pd | ⟨pd,pd'⟩
          all_goals
           go_wp2;refine qzK (v:=.tuple #[WV (.slice none 0 0) (.slice none 0 0) 0,.int .i64 0,.int .i64 5]) ?_ rfl (HEND5.out _ (xbd hBr (by omega) _ _ _))
           simp[results,Tryz.results12,go_sem,q0,qf]
         ·have s2':(X.cz.length:Int)<12:=by omega
          have HE0:Hid (xcM X.cz name super slots=0):=by show _=_;rw[hE2.out,if_neg s2]
          obtain⟨cs,hcs,hsrc⟩:=RowAt.cells hrow xaA;have HSRC:Hid (∀ j u,cs[j]?=some u->∃ a,ad=some a/\w.cell? (a.add j)=some u):=hsrc;obtain⟨i0,hi,hz0,hz1,hz2⟩:=xa8 xiB;have a0x:=fun x=>qzA (xak w4 x) a0'
          have hz4:w.heap.size+1<w4.heap.size:=qzE (xal r) hb4'.size;clear hsrc
          rcases pd with pd | ⟨pd,pd'⟩
          all_goals
           go_wp2_with (first
            | (at_builtin;refine xbl rfl (.tmp 72) (.tmp 74) 22 71 zC 4 56 rfl Tryz.underlying22 xiB rfl (by decide) (by decide) w4.heap.size rfl (xbj _ _ _ rfl) ad X.cz.length cap rfl cs hcs.1 (fun j u hu=>by obtain⟨a,e,h⟩:=HSRC.out j u hu;exact⟨a,e,qzA (xaf hBr (xak _ _)) h⟩) hby ?_;intro gA capA wA hownA hgA hgAl hbA)
            | (at_builtin;refine wpList_append_lies _ rfl (.tmp 75) (.tmp 80) 22 rfl w4.heap.size 71 i0 _ 4 56 Tryz.underlying22 hi hz0 hz1 hz2 rfl (by decide) _ X.cz.length cs rfl (hownA.alloc _) ⟨_,0,none⟩ 1 1 [.string name,.int .i64 super,.int .i64 slots,.slice none 0 0] rfl rfl (fun j u hu=>(by rw[Addr.add_lit,Nat.zero_add];exact (xaa wA _ 71 _ rfl j).trans (by simpa using hu))) (by intro u hu;simp at hu;rcases hu with rfl | rfl | rfl | rfl<;>rfl) (by omega) (by unfold maxLen;omega) (by omega) (by have:=hbA.size;simp at this;simp;omega) _ rfl ?_;intro gg cap2 w2 hown2 hgr hor hlt2;have hbAs:=hbA.size;have hb2:=xcO hownA (by simp at hbAs;omega) hgr;have hW2:Below w4.heap.size w4 w2:=(xaf (xak _ _) hbA).trans hb2;have hR2:=RC.out _ (xaf hb4' hW2);have hB2:=RB.out _ (xaf hb4' hW2);have q0:=hR2.1;have qf:=hR2.2;have c0:=hB2.1;have cf:=hB2.2;clear hR2 hB2))
           have hF:Below w.heap.size w ((((w2.setCell ⟨w.heap.size,0,none⟩ (.slice (some ⟨gg,0,none⟩) (X.cz.length+1) cap2)).setCell ⟨w.heap.size+1,0,none⟩ (.slice (some ⟨gg,0,none⟩) (X.cz.length+1) cap2)).setCell ⟨w.heap.size+1,1,none⟩ (.slice ah X.heap.length ch)).setCell ⟨w.heap.size+1,2,none⟩ (.int .i64 X.ez)):=xbd ((xaf hBr hW2).setCell (qzC _) _) (by omega) _ _ _
           refine qzK (v:=.tuple #[WV (.slice (some ⟨gg,0,none⟩) (X.cz.length+1) cap2) (.slice ah X.heap.length ch) X.ez,.int .i64 X.cz.length,.int .i64 0]) ?_ rfl ⟨Or.inr ⟨HE0.out,_,rfl,?_⟩,hF⟩
           ·simp[results,Tryz.results12,go_sem,q0,qf,c0,cf]
           ·obtain⟨-,⟨e,h0⟩ | ⟨g,c,cur,e,h1,h2,h3,h4,h5,h6⟩⟩:=hown2
            ·cases h0
            ·cases e
             have hlen:(xpN X name super slots).cz.length=X.cz.length+1:=by simp[xpN]
             have hR:=Cells.row (bytes:=56) (cap:=cap2) (g:=gg) ((hcs.keep xaA (.of_below hF) (Q:=fun b=>P b\/w.heap.size<=b) fun _ h=>Or.inl h).append xaA (xdF (P:=fun b=>P b\/w.heap.size<=b) ⟨name,super,slots,[]⟩ _ hn xbn)) xaA (Or.inr (by omega)) (by rw[xac (by omega),xac (by omega),xac (by omega),xac (by omega)];exact h2) (by simpa using h6) (by simpa using h3) h4 (by simp;omega)
             rw[List.length_append] at hR
             exact hR
        ·have p1:0<super:=by simp[xgY] at hpl;omega
         have p2:super<4:=by simp[xgY] at hpl;omega
         go_wp2;refine qzK (v:=.tuple #[WV (.slice none 0 0) (.slice none 0 0) 0,.int .i64 0,.int .i64 3]) ?_ rfl (HEND.out (by rw[HE.out,if_pos (Or.inr (Or.inr hpl))]) _ (xbd hBr (by omega) _ _ _))
         simp[results,Tryz.results12,go_sem,q0,qf]
theorem xfi:∀ (x y z:List UInt8),Op.bytesLess x y=true->Op.bytesLess y z=true->Op.bytesLess x z=true
 | [],[],z,h,_=>by simp[Op.bytesLess] at h
 | [],b :: y,[],_,k=>by simp[Op.bytesLess] at k
 | [],b :: y,c :: z,_,_=>by simp[Op.bytesLess]
 | a :: x,[],z,h,_=>by simp[Op.bytesLess] at h
 | a :: x,b :: y,[],_,k=>by simp[Op.bytesLess] at k
 | a :: x,b :: y,c :: z,h,k=>by
  simp only[Op.bytesLess,Bool.or_eq_true,decide_eq_true_eq,Bool.and_eq_true,beq_iff_eq] at h k ⊢
  rcases h with h | ⟨rfl,h⟩
  ·rcases k with k | ⟨rfl,k⟩
   ·exact Or.inl (UInt8.lt_trans h k)
   ·exact Or.inl h
  ·rcases k with k | ⟨rfl,k⟩
   ·exact Or.inl k
   ·exact Or.inr ⟨rfl,xfi x y z h k⟩
theorem xfI:∀ (x:List UInt8),Op.bytesLess x x=false
 | []=>rfl
 | a :: x=>by simp[Op.bytesLess,xfI x]
theorem xku:∀ (x y:List UInt8),Op.bytesLess x y=true\/x=y\/Op.bytesLess y x=true
 | [],[]=>Or.inr (Or.inl rfl)
 | [],b :: y=>Or.inl (by simp[Op.bytesLess])
 | a :: x,[]=>Or.inr (Or.inr (by simp[Op.bytesLess]))
 | a :: x,b :: y=>by
  simp only[Op.bytesLess,Bool.or_eq_true,decide_eq_true_eq,Bool.and_eq_true,beq_iff_eq]
  rcases UInt8.lt_or_lt_of_ne (a:=a) (b:=b) |> fun h=>(Classical.em (a=b)).elim (fun e=>Or.inr e) (fun e=>Or.inl (h e)) with (h | h) | rfl
  ·exact Or.inl (Or.inl h)
  ·exact Or.inr (Or.inr (Or.inl h))
  ·rcases xku x y with h | rfl | h
   ·exact Or.inl (Or.inr ⟨rfl,h⟩)
   ·exact Or.inr (Or.inl rfl)
   ·exact Or.inr (Or.inr (Or.inr ⟨rfl,h⟩))
theorem xpB {a b:ByteArray}:gtN a b=true ↔ ltN b a=true:=by
 unfold gtN ltN
 constructor
 ·intro h;simp only[Bool.and_eq_true,Bool.not_eq_true',beq_eq_false_iff_ne] at h
  rcases xku a.toList b.toList with k | k | k
  ·rw[h.1] at k;cases k
  ·exact absurd k (by simpa using h.2)
  ·exact k
 ·intro h
  have h1:Op.bytesLess a.toList b.toList=false:=by
   cases k:Op.bytesLess a.toList b.toList
   ·rfl
   ·have:=xfi _ _ _ h k;rw[xfI] at this;cases this
  have h2:¬ a.toList=b.toList:=fun e=>by rw[e,xfI] at h;cases h
  simp[h1,h2]
theorem xfF {a b:ByteArray}:eqN a b=true ↔ a.toList=b.toList:=by simp[eqN]
theorem xrm {a b c:ByteArray}(h:eqN a b=true)(k:ltN a c=true):ltN b c=true:=by
 unfold ltN at k ⊢;rw[← xfF.1 h];exact k
theorem xgu {a b c:ByteArray}(h:ltN a b=true)(k:ltN b c=true):ltN a c=true:=xfi _ _ _ h k
theorem xeF {a b:ByteArray}(h:ltN b a=true):eqN a b=false:=by
 cases k:eqN a b
 ·rfl
 ·unfold ltN at h;rw[xfF.1 k,xfI] at h;cases h
structure InsS where
 ms:List QM
 done:Bool
 was:Bool
def xep (m:QM)(s:InsS)(x:QM):InsS:=
 if eqN x.name m.name=true then ⟨s.ms++[m],true,true⟩
 else if s.done=false/\gtN x.name m.name=true then ⟨s.ms++[m]++[x],true,s.was⟩
 else ⟨s.ms++[x],s.done,s.was⟩
def xph (m:QM)(xs:List QM):InsS:=xs.foldl (xep m) ⟨[],false,false⟩
def xrS (m:QM)(xs:List QM):List QM:=if (xph m xs).done then (xph m xs).ms else (xph m xs).ms++[m]
theorem RisesM.tail {x:QM}{r:List QM}(h:RisesM (x :: r)):RisesM r:=fun i a b ha hb=>h (i+1) a b (by simpa using ha) (by simpa using hb)
theorem RisesM.head {x:QM}:∀ {r:List QM},RisesM (x :: r)->∀ y∈r,ltN x.name y.name=true
 | [],_,y,hy=>by simp at hy
 | z :: r,h,y,hy=>by
  have h1:ltN x.name z.name=true:=h 0 x z rfl rfl
  rcases List.mem_cons.1 hy with rfl | hy
  ·exact h1
  ·exact xgu h1 (RisesM.head h.tail y hy)
theorem xgB {m:QM}:∀ (r:List QM) (s:InsS),s.done=true->(∀ y∈r,ltN m.name y.name=true)->r.foldl (xep m) s=⟨s.ms++r,true,s.was⟩
 | [],s,h,_=>by cases s;simp at h ⊢;exact h
 | x :: r,s,h,hr=>by
  have h1:xep m s x=⟨s.ms++[x],true,s.was⟩:=by
   unfold xep;rw[if_neg (by rw[xeF (hr x (by simp))];simp),if_neg (by simp[h]),h]
  rw[List.foldl_cons,h1,xgB r _ rfl fun y hy=>hr y (by simp[hy])]
  simp
theorem xfO {m:QM}:∀ (r pre:List QM),RisesM r->
  r.foldl (xep m) ⟨pre,false,false⟩=(match r.findIdx? (fun y=>eqN y.name m.name) with
   | some i=>⟨pre++r.set i m,true,true⟩
   | none=>match r.findIdx? (fun y=>gtN y.name m.name) with
    | some i=>⟨pre++(r.take i++[m]++r.drop i),true,false⟩
    | none=>⟨pre++r,false,false⟩)
 | [],pre,_=>by simp
 | x :: r,pre,h=>by
  have hh:=h.head
  cases he:eqN x.name m.name
  ·cases hg:gtN x.name m.name
   ·have h1:xep m ⟨pre,false,false⟩ x=⟨pre++[x],false,false⟩:=by simp[xep,he,hg]
    rw[List.foldl_cons,h1,xfO r _ h.tail];rw[List.findIdx?_cons,List.findIdx?_cons,he,hg]
    cases h2:r.findIdx? (fun y=>eqN y.name m.name) with
    | some i=>simp
    | none=>
     cases h3:r.findIdx? (fun y=>gtN y.name m.name) with
     | some i=>simp
     | none=>simp
   ·have h1:xep m ⟨pre,false,false⟩ x=⟨pre++[m]++[x],true,false⟩:=by simp[xep,he,hg]
    have hm:∀ y∈r,ltN m.name y.name=true:=fun y hy=>xgu (xpB.1 hg) (hh y hy)
    rw[List.foldl_cons,h1,xgB r _ rfl hm];rw[List.findIdx?_cons,List.findIdx?_cons,he,hg]
    have h2:r.findIdx? (fun y=>eqN y.name m.name)=none:=by
     rw[List.findIdx?_eq_none_iff]
     exact fun y hy=>xeF (hm y hy)
    rw[h2]
    simp
  ·have h1:xep m ⟨pre,false,false⟩ x=⟨pre++[m],true,true⟩:=by simp[xep,he]
   have hm:∀ y∈r,ltN m.name y.name=true:=fun y hy=>xrm he (hh y hy)
   rw[List.foldl_cons,h1,xgB r _ rfl hm];rw[List.findIdx?_cons,he]
   simp
theorem xoj {m:QM}{xs:List QM}(h:RisesM xs):(xph m xs).was=decide (0<=xcw xs m.name):=by
 unfold xph xcw xcP;rw[xfO xs [] h]
 cases h2:xs.findIdx? (fun y=>eqN y.name m.name) with
 | some i=>simp
 | none=>cases h3:xs.findIdx? (fun y=>gtN y.name m.name)<;>simp
theorem xnZ {m:QM}{xs:List QM}(h:RisesM xs):xrS m xs=xl4 xs m:=by
 unfold xrS xph xl4 xcw xnK xcP;rw[xfO xs [] h]
 cases h2:xs.findIdx? (fun y=>eqN y.name m.name) with
 | some i=>simp
 | none=>
  cases h3:xs.findIdx? (fun y=>gtN y.name m.name) with
  | some i=>
   have:¬ ((i:Int)<0):=by omega
   simp[this]
  | none=>simp
theorem xcR {wr w2:World}{B:Nat}{X Y:Obj}{a:Option Addr}{e:TypeId}{sz n k:Nat}{xs:List Value}(hown:wr.ownsRow B e sz (.slice a n k) n xs)(hB:B<=wr.heap.size)(hgr:((wr.alloc X).alloc Y).grownBy w2 (Value.ownBlock (.slice a n k))):Below B wr w2:=
 ((qzL B wr).alloc hB X).trans (xcO (hown.alloc X) (by simp;omega) hgr)
theorem xle {wr w2:World}{B:Nat}{X Y:Obj}{a:Option Addr}{e:TypeId}{sz n k:Nat}{xs:List Value}(hown:wr.ownsRow B e sz (.slice a n k) n xs)(hgr:((wr.alloc X).alloc Y).grownBy w2 (Value.ownBlock (.slice a n k))):w2.heap[wr.heap.size]?=some X:=by
 rw[hgr.block wr.heap.size (by simp;omega) ?_,(xak _ _).block _ (by simp)]
 ·exact xbj _ _ _ rfl
 ·obtain⟨-,⟨e,-⟩ | ⟨g,c,cur,e,h1,h2,-⟩⟩:=hown
  ·rw[e];simp[Value.ownBlock]
  ·rw[e];have:=xal h2
   simp[Value.ownBlock]
   omega
theorem xkG {m:QM}:∀ (r:List QM) (s:InsS),(r.foldl (xep m) s).ms.length<=s.ms.length+r.length+(if s.done then 0 else 1)/\((r.foldl (xep m) s).done=false->s.done=false/\(r.foldl (xep m) s).ms.length<=s.ms.length+r.length)
 | [],s=>by simp
 | x :: r,s=>by
  obtain⟨h1,h2⟩:=xkG (m:=m) r (xep m s x);rw[List.foldl_cons]
  cases he:eqN x.name m.name
  ·by_cases hg:s.done=false/\gtN x.name m.name=true
   ·have e:xep m s x=⟨s.ms++[m]++[x],true,s.was⟩:=by simp[xep,he,hg]
    rw[e] at h1 h2 ⊢
    simp[hg.1] at h1 h2 ⊢
    exact⟨by omega,fun h=>by rw[h2] at h;cases h⟩
   ·have e:xep m s x=⟨s.ms++[x],s.done,s.was⟩:=by simp[xep,he,hg]
    rw[e] at h1 h2 ⊢
    simp at h1 h2 ⊢
    exact⟨by omega,fun h=>⟨(h2 h).1,by have:=(h2 h).2;omega⟩⟩
  ·have e:xep m s x=⟨s.ms++[m],true,true⟩:=by simp[xep,he]
   rw[e] at h1 h2 ⊢
   simp at h1 h2 ⊢
   exact⟨by split<;>omega,fun h=>by rw[h2] at h;cases h⟩
theorem xgr {α β:Type}(f:β->α->β)(b:β)(xs:List α)(j:Nat)(x:α)(h:xs[j]?=some x):(xs.take (j+1)).foldl f b=f ((xs.take j).foldl f b) x:=by
 rw[List.take_add_one,h];simp
def xqM (P:Nat->Prop)(w:World)(X:QW)(c:Int)(m:QM)(hv:Value)(e:Ending)(w':World):Prop:=
 (xgI X.cz.length c=false/\e=.returned (.tuple #[WV (.slice none 0 0) (.slice none 0 0) 0,.int .i64 6])\/
  ∃ (k:Nat) (x:QC),c=(k:Int)/\X.cz[k]?=some x/\
   ((xcw x.mz m.name<0/\8<=x.mz.length/\e=.returned (.tuple #[WV (.slice none 0 0) (.slice none 0 0) 0,.int .i64 5]))\/
    (¬ (xcw x.mz m.name<0/\8<=x.mz.length)/\∃ cv',e=.returned (.tuple #[WV cv' hv (xgV X.ez),.int .i64 0])/\xai (fun b=>P b\/w.heap.size<=b) w' cv' (xii X k x m).cz)))/\Below w.heap.size w w'
abbrev In (w:World):Nat->Prop:=fun b=>b<w.heap.size
abbrev InP (P:Nat->Prop)(w:World):Nat->Prop:=fun b=>P b/\b<w.heap.size
theorem xgl {P:Nat->Prop}{w:World}{v:Value}{xs:List QI}(h:xaR P w v xs):xaR (InP P w) w v xs:=by
 obtain⟨ad,cap,h1,h2,h3,h4,h5⟩:=h;refine⟨ad,cap,h1,h2,h3,h4,fun i x hx=>?_⟩
 obtain⟨b,o,e1,e2,e3⟩:=h5 i x hx
 exact⟨b,o,e1,⟨e2,World.block_lt_of_cell? w _ e3.1⟩,e3⟩
theorem xf3 {α:Type}{E:Lay α}{sz bytes:Nat}(G:Good E sz){t:TypeId}{Q:Nat->Prop}{B n k:Nat}{a:Option Addr}{w:World}{cs:List Value}{xs:List α}(hown:w.ownsRow B t sz (.slice a n k) n cs)(hc:Cells E sz Q w cs xs)(hn:xs.length=n)(hQ:∀ b,B<=b->b<w.heap.size->Q b)(hby:n*bytes<=140737488351232):IsRow E sz bytes Q w (.slice a n k) xs:=by
 obtain⟨-,⟨e,h0⟩ | ⟨g,c,cur,e,h1,h2,h3,h4,h5,h6⟩⟩:=hown
 ·cases e
  obtain rfl:=List.eq_nil_of_length_eq_zero hn
  exact xbn
 ·cases e
  subst hn
  exact hc.row G (hQ _ h1 (xal h2)) h2 h6 h3 h4 hby
theorem xeM {t:TypeId}{B sz n k g:Nat}{w:World}{cs:List Value}(hown:w.ownsRow B t sz (.slice (some ⟨g,0,none⟩) n k) n cs){j:Nat}{u:Value}(hj:cs[j]?=some u):w.cell? ⟨g,j,none⟩=some u:=by
 obtain⟨-,⟨e,h0⟩ | ⟨g',c,cur,e,h1,h2,h3,h4,h5,h6⟩⟩:=hown
 ·cases e
 ·cases e
  rw[qzB h2];rw[← h6,List.getElem?_take] at hj
  split at hj
  ·simpa using hj
  ·cases hj
theorem xfC {t:TypeId}{B sz n k g:Nat}{w:World}{cs:List Value}(hown:w.ownsRow B t sz (.slice (some ⟨g,0,none⟩) n k) n cs)(j:Nat):w.frozen? ⟨g,j,none⟩=false:=by
 obtain⟨-,⟨e,h0⟩ | ⟨g',c,cur,e,h1,h2,h3,h4,h5,h6⟩⟩:=hown
 ·cases e
 ·cases e
  unfold World.frozen?;simp[h2]
theorem Cells.setAt {α:Type}{E:Lay α}{sz:Nat}{P:Nat->Prop}{w:World}{cs cs':List Value}{xs:List α}(h:Cells E sz P w cs xs)(G:Good E sz){q:Nat}{y:α}(hq:q<xs.length)(hl:cs'.length=cs.length)(hk:∀ j,(j<q*sz\/(q+1)*sz<=j)->cs'[j]?=cs[j]?)(hy:E P w (fun k=>cs'[q*sz+k]?) y):Cells E sz P w cs' (xs.set q y):=by
 refine⟨by rw[hl,h.1,List.length_set],fun i x hx=>?_⟩
 by_cases hi:i=q
 ·subst hi;rw[List.getElem?_set_self hq] at hx
  cases hx
  exact hy
 ·rw[List.getElem?_set_ne (Ne.symm hi)] at hx;refine G.move (h.2 i x hx) (fun _ h=>h) (.refl _ _) fun k hk' v hv=>?_
  rw[hk]
  ·exact hv
  ·rcases Nat.lt_or_gt_of_ne hi with h' | h'
   ·left
    have:(i+1)*sz<=q*sz:=Nat.mul_le_mul_right _ h';rw[Nat.add_mul] at this
    omega
   ·right
    have:(q+1)*sz<=i*sz:=Nat.mul_le_mul_right _ h'
    omega
structure LayR (P:Nat->Prop)(w W0:World)(m:QM)(s:InsS)(a:Option Addr)(k:Nat)(cs:List Value)(wr:World):Prop where
 bel:Below (w.heap.size+3) W0 wr
 own:wr.ownsRow (w.heap.size+3) 59 5 (.slice a s.ms.length k) s.ms.length cs
 cells:Cells xfx 5 (InP P w) w cs s.ms
theorem xkf {P:Nat->Prop}{w wc wA:World}{X:QW}{m:QM}{q:Nat}{x:QC}{ccs:List Value}{az:Option Addr}{L cap2 gA capA:Nat}{S1 S2 S3 S4 S5:Value}(hx:X.cz[q]?=some x)(hbw:Below w.heap.size w wc)(hA:Below wc.heap.size wc wA)(hgB:wc.heap.size<=gA)(hsz:w.heap.size+3<=wc.heap.size)
  (hownA:wA.ownsRow wc.heap.size 71 4 (.slice (some ⟨gA,0,none⟩) X.cz.length capA) X.cz.length ccs) (HCC:Cells xeC 4 P w ccs X.cz) (hMZ:xbm (fun b=>(P b/\b<w.heap.size\/w.heap.size+3<=b)/\b<wc.heap.size) wc (.slice az L cap2) (xl4 x.mz m)) (hby:X.cz.length*56<=140737488351232) :
  Below w.heap.size w ((((((wA.setCell ⟨w.heap.size,0,none⟩ S1).setCell ⟨gA,q*4+3,none⟩ (.slice az L cap2)).setCell ⟨w.heap.size,2,none⟩ S2).setCell ⟨w.heap.size+1+1,0,none⟩ S3).setCell ⟨w.heap.size+1+1,1,none⟩ S4).setCell ⟨w.heap.size+1+1,2,none⟩ S5)/\
   xai (fun b=>P b\/w.heap.size<=b) ((((((wA.setCell ⟨w.heap.size,0,none⟩ S1).setCell ⟨gA,q*4+3,none⟩ (.slice az L cap2)).setCell ⟨w.heap.size,2,none⟩ S2).setCell ⟨w.heap.size+1+1,0,none⟩ S3).setCell ⟨w.heap.size+1+1,1,none⟩ S4).setCell ⟨w.heap.size+1+1,2,none⟩ S5) (.slice (some ⟨gA,0,none⟩) X.cz.length capA) (xii X q x m).cz:=by
 have hF:Below w.heap.size w ((((((wA.setCell ⟨w.heap.size,0,none⟩ S1).setCell ⟨gA,q*4+3,none⟩ (.slice az L cap2)).setCell ⟨w.heap.size,2,none⟩ S2).setCell ⟨w.heap.size+1+1,0,none⟩ S3).setCell ⟨w.heap.size+1+1,1,none⟩ S4).setCell ⟨w.heap.size+1+1,2,none⟩ S5):=
  xbd ((((xaf hbw hA).setCell (qzC _) _).setCell (by show w.heap.size<=gA;omega) _).setCell (qzC _) _) (by omega) _ _ _
 refine⟨hF,?_⟩
 have hM2:xbm (fun b=>P b\/w.heap.size<=b) ((((((wA.setCell ⟨w.heap.size,0,none⟩ S1).setCell ⟨gA,q*4+3,none⟩ (.slice az L cap2)).setCell ⟨w.heap.size,2,none⟩ S2).setCell ⟨w.heap.size+1+1,0,none⟩ S3).setCell ⟨w.heap.size+1+1,1,none⟩ S4).setCell ⟨w.heap.size+1+1,2,none⟩ S5) (.slice az L cap2) (xl4 x.mz m):=
  hMZ.keep xbq (xaC (xaC (xaC (xaC (xaC (xaC (.of_below hA) (by rintro⟨⟨_,h⟩ | h,_⟩<;>omega) _) (by rintro⟨⟨_,h⟩ | h,_⟩<;>omega) _) (by rintro⟨⟨_,h⟩ | h,_⟩<;>omega) _) (by rintro⟨⟨_,h⟩ | h,_⟩<;>omega) _) (by rintro⟨⟨_,h⟩ | h,_⟩<;>omega) _) (by rintro⟨⟨_,h⟩ | h,_⟩<;>omega) _) fun b hb=>by
   rcases hb.1 with h | h
   ·exact Or.inl h.1
   ·exact Or.inr (by omega)
 have hq:=xae hx;obtain⟨-,⟨e,h0⟩ | ⟨g,c,cur,e,h1,h2,h3,h4,h5,h6⟩⟩:=hownA
 ·cases e
 ·cases e
  have hlen:(xii X q x m).cz.length=X.cz.length:=by simp[xii]
  have hblk:((((((wA.setCell ⟨w.heap.size,0,none⟩ S1).setCell ⟨gA,q*4+3,none⟩ (.slice az L cap2)).setCell ⟨w.heap.size,2,none⟩ S2).setCell ⟨w.heap.size+1+1,0,none⟩ S3).setCell ⟨w.heap.size+1+1,1,none⟩ S4).setCell ⟨w.heap.size+1+1,2,none⟩ S5).heap[gA]?=some (.cells (cur.setIfInBounds (q*4+3) (.slice az L cap2)) 71 (0,0)):=by
   rw[xac (by omega),xac (by omega),xac (by omega),xac (by omega)]
   exact xag (by rw[xac (by omega)];exact h2) _
  have hcs:=HCC.keep xaA (.of_below hF) (Q:=fun b=>P b\/w.heap.size<=b) fun _ h=>Or.inl h
  obtain⟨e0,e1,e2,en,-⟩:=hcs.2 q x hx;have hl3:q*4+3<ccs.length:=by rw[hcs.1];omega
  have hC2:Cells xeC 4 (fun b=>P b\/w.heap.size<=b) ((((((wA.setCell ⟨w.heap.size,0,none⟩ S1).setCell ⟨gA,q*4+3,none⟩ (.slice az L cap2)).setCell ⟨w.heap.size,2,none⟩ S2).setCell ⟨w.heap.size+1+1,0,none⟩ S3).setCell ⟨w.heap.size+1+1,1,none⟩ S4).setCell ⟨w.heap.size+1+1,2,none⟩ S5) (ccs.set (q*4+3) (.slice az L cap2)) (xii X q x m).cz:=by
   refine hcs.setAt xaA hq (by simp) (fun j hj=>List.getElem?_set_ne (by omega)) ⟨?_,?_,?_,en,_,?_,hM2⟩
   ·exact (List.getElem?_set_ne (by omega)).trans e0
   ·exact (List.getElem?_set_ne (by omega)).trans e1
   ·exact (List.getElem?_set_ne (by omega)).trans e2
   ·exact List.getElem?_set_self hl3
  have:=hC2.row (bytes:=56) (cap:=capA) xaA (Or.inr (by omega)) hblk (by rw[hlen,← h6];simp[List.take_set]) (by rw[hlen];exact h3) h4 (by rw[hlen];exact hby)
  rw[hlen] at this
  exact this
theorem xik {P:Nat->Prop}(X:QW)(c:Int)(m:QM)(cv hv mv:Value)(w:World)(hh:xai P w cv X.cz)(hH:xaD P w hv X.heap)(hM:xaR P w mv m.code)(hmn:m.name.size<=140737488351232)(hRC:xiX X.cz):Calls Tryz.prog 14 #[WV cv hv X.ez,.int .i64 c,MV m mv] w fun e w'=>xqM P w X c m hv e w':=by
 obtain⟨ad,cap,rfl,hl,hcap,hby,hrow⟩:=id hh;obtain⟨ah,ch,rfl,-,-,-,-⟩:=id hH;obtain⟨am,cm,rfl⟩:=hM.get;obtain⟨i0,hi,hz0,hz1,hz2⟩:=xa8 xnL;unfold maxLen at hcap;go_enter Tryz.func14,Tryz.ntmps14
 cases hhas:xgI X.cz.length c
 ·have HE:Hid (∀ W:World,Below w.heap.size w W->xqM P w X c m (.slice ah X.heap.length ch) (.returned (.tuple #[WV (.slice none 0 0) (.slice none 0 0) 0,.int .i64 6])) W):=fun W h=>⟨Or.inl ⟨hhas,rfl⟩,h⟩
  by_cases h0:c<0
  ·go_wp2;refine qzK (v:=.tuple #[WV (.slice none 0 0) (.slice none 0 0) 0,.int .i64 6]) ?_ rfl (HE.out _ ?_)
   ·simp[results,Tryz.results14,go_sem]
   ·first | exact xfL _ _ _ _ | exact xbd (xfL _ _ _ _) (by omega) _ _ _
  ·have h0':decide (c<0)=false:=by simpa using h0
   have h1:(X.cz.length:Int)<=c:=by simp[xgI] at hhas;omega
   go_wp2;refine qzK (v:=.tuple #[WV (.slice none 0 0) (.slice none 0 0) 0,.int .i64 6]) ?_ rfl (HE.out _ ?_)
   ·simp[results,Tryz.results14,go_sem]
   ·first | exact xfL _ _ _ _ | exact xbd (xfL _ _ _ _) (by omega) _ _ _
 ·have h0:(0:Int)<=c:=by simp[xgI] at hhas;omega
  obtain⟨q,rfl⟩:=Int.eq_ofNat_of_zero_le h0;have hq:q<X.cz.length:=by simp[xgI] at hhas;omega
  have h1:(q:Int)<(X.cz.length:Int):=by omega
  obtain⟨x,hx⟩:∃ x,X.cz[q]?=some x:=⟨_,List.getElem?_eq_getElem hq⟩;obtain⟨b,o,rfl,-,v0,v1,v2,-,sv,v3,hms⟩:=hrow q x hx;obtain⟨am2,km,rfl,hlm,hkm,hbm,hrm⟩:=id hms;unfold maxLen at hkm;have HX:Hid (X.cz[q]?=some x):=hx;have hRM:RisesM x.mz:=hRC q x hx;have HROW:Hid (RowAt xeC 4 P w (some ⟨b,o,none⟩) X.cz):=hrow;clear hx hhas hrow;have v3x:=fun x1 x2 x3=>qzA (xfL w x1 x2 x3) v3
  go_wp2;generalize hW0:((w.alloc (Obj.cells #[Value.slice (some ⟨b,o,none⟩) X.cz.length cap,Value.slice ah X.heap.length ch,Value.int .i64 X.ez] 25)).alloc (Obj.cells #[Value.string m.name,Value.int .i64 m.args,Value.int .i64 m.temps,Value.int .i64 m.prim,Value.slice am m.code.length cm] 59)).alloc (Obj.cells #[Value.slice none 0 0,Value.slice none 0 0,Value.int .i64 0] 25)=W0 at *;have hBW:Below w.heap.size w W0:=by rw[← hW0];exact xfL _ _ _ _
  have hsW:W0.heap.size=w.heap.size+3:=by rw[← hW0];simp
  have gA:W0.heap[w.heap.size]?=some (.cells #[Value.slice (some ⟨b,o,none⟩) X.cz.length cap,Value.slice ah X.heap.length ch,Value.int .i64 X.ez] 25 (0,0)):=by rw[← hW0,(xbP _ _ _).block _ (by simp)];exact xbj _ _ _ rfl
  have gB:W0.heap[w.heap.size+1]?=some (.cells #[Value.string m.name,Value.int .i64 m.args,Value.int .i64 m.temps,Value.int .i64 m.prim,Value.slice am m.code.length cm] 59 (0,0)):=by rw[← hW0,(xak _ _).block _ (by simp)];exact xbj _ _ _ (by simp)
  have gC:W0.heap[w.heap.size+1+1]?=some (.cells #[Value.slice none 0 0,Value.slice none 0 0,Value.int .i64 0] 25 (0,0)):=by rw[← hW0];exact xbj _ _ _ (by simp)
  clear hW0
  go_loopg [8,9,10,30] x.mz.length (fun g ms dn ws i wr=>∃ (j:Nat) (s:InsS) (a:Option Addr) (k:Nat) (cs:List Value),j+g=x.mz.length/\i=.int .i64 j/\s=(x.mz.take j).foldl (xep m) ⟨[],false,false⟩/\ms=.slice a s.ms.length k/\dn=.bool s.done/\ws=.bool s.was/\LayR P w W0 m s a k cs wr)
  case atStart=>exact⟨0,⟨[],false,false⟩,none,0,[],by omega,rfl,rfl,rfl,rfl,rfl,qzL _ _,⟨by simp,Or.inl ⟨rfl,rfl⟩⟩,.nil⟩
  case round=>
   obtain⟨j,s,a,k,cs,hg,rfl,hs,rfl,rfl,rfl,hL⟩:=hrel;obtain⟨sm,sd,sw⟩:=s;have HS:Hid (InsS.mk sm sd sw=(x.mz.take j).foldl (xep m) ⟨[],false,false⟩):=hs
   have hlen1:sm.length<=j+1:=by
    have:=(xkG (m:=m) (x.mz.take j) ⟨[],false,false⟩).1;rw[← hs] at this
    simp at this
    have h2:=List.length_take_le j x.mz
    simp at h2
    omega
   obtain⟨hbel,hown,hcs⟩:=id hL;have hsz:w.heap.size+3<=wr.heap.size:=by have:=hbel.size;omega
   have hbw:Below w.heap.size w wr:=hBW.trans (hbel.mono (by omega))
   have HCS:Hid (Cells xfx 5 (InP P w) w cs sm):=hcs;clear hs hL hcs;simp only at hown
   by_cases hj:j<x.mz.length
   ·have hj1:(j:Int)<(x.mz.length:Int):=by omega
    have hj0:(0:Int)<=(j:Int):=by omega
    obtain⟨y,hy⟩:∃ y,x.mz[j]?=some y:=⟨_,List.getElem?_eq_getElem hj⟩;obtain⟨b2,o2,rfl,-,p0,p1,p2,p3,hyn,yv,p4,hyc⟩:=hrm j y hy;obtain⟨ay,ky,rfl⟩:=hyc.get;have HY:Hid (InsS.mk sm sd sw=(x.mz.take j).foldl (xep m) ⟨[],false,false⟩->(x.mz.take (j+1)).foldl (xep m) ⟨[],false,false⟩=xep m ⟨sm,sd,sw⟩ y):=fun h=>by rw[xgr _ _ _ _ _ hy,h]
    simp only[Nat.add_zero] at p0;replace p0:=qzA hbw p0;replace p1:=qzA hbw p1;replace p2:=qzA hbw p2;replace p3:=qzA hbw p3;replace p4:=qzA hbw p4;have gB':wr.heap[w.heap.size+1]?=some (.cells #[Value.string m.name,Value.int .i64 m.args,Value.int .i64 m.temps,Value.int .i64 m.prim,Value.slice am m.code.length cm] 59 (0,0)):=by rw[hbel.block _ (by omega)];exact gB
    have mc:∀ z q,(wr.alloc z).cell? ⟨w.heap.size+1,q,none⟩=(#[Value.string m.name,Value.int .i64 m.args,Value.int .i64 m.temps,Value.int .i64 m.prim,Value.slice am m.code.length cm]:Array Value)[q]?:=fun z q=>by rw[(xak wr z).cell (p:=⟨w.heap.size+1,q,none⟩) (by simp;omega),qzB gB']
    have HYC:Hid (xaR (InP P w) w (.slice ay y.code.length ky) y.code):=xgl hyc;clear hy hyc
    cases he:eqN y.name m.name
    ·have he':(y.name.toList == m.name.toList)=false:=he
     cases sd
     ·cases hlt:Op.bytesLess y.name.toList m.name.toList
      ·have hg:gtN y.name m.name=true:=by unfold gtN;rw[hlt,he'];rfl
       go_wp2_with (first
        | (at_builtin;refine wpList_append_lies _ rfl (.tmp 52) (.tmp 54) 69 rfl (w.heap.size+3) 59 i0 _ 5 64 Tryz.underlying69 hi hz0 hz1 hz2 rfl (by decide) _ sm.length _ rfl ((hown.alloc _).alloc _) ⟨_,0,none⟩ 1 1 [Value.string m.name,Value.int .i64 m.args,Value.int .i64 m.temps,Value.int .i64 m.prim,Value.slice am m.code.length cm] rfl rfl (fun j u hu=>(by rw[Addr.add_lit,Nat.zero_add];exact (xaa (World.alloc wr _) _ 59 _ (by simp) j).trans (by simpa using hu))) (by intro u hu;simp at hu;rcases hu with rfl | rfl | rfl | rfl | rfl<;>rfl) (by omega) (by unfold maxLen;omega) (by omega) (by first | (simp;omega) | (have:=hb2.size;simp;omega)) _ rfl ?_;intro gg cap2 w2 hown2 hgr hor hlt2;have hb2:=xcR hown hsz hgr;have hk2:=xle hown hgr;have yc:∀ q,w2.cell? ⟨wr.heap.size,q,none⟩=(#[Value.string y.name,Value.int .i64 y.args,Value.int .i64 y.temps,Value.int .i64 y.prim,Value.slice ay y.code.length ky]:Array Value)[q]?:=(fun q=>by rw[qzB hk2]))
        | (at_builtin;refine wpList_append_lies _ rfl (.tmp 56) (.tmp 58) 69 rfl (w.heap.size+3) 59 i0 _ 5 64 Tryz.underlying69 hi hz0 hz1 hz2 rfl (by decide) _ (sm.length+1) _ rfl (hown2.alloc _) ⟨_,0,none⟩ 1 1 [Value.string y.name,Value.int .i64 y.args,Value.int .i64 y.temps,Value.int .i64 y.prim,Value.slice ay y.code.length ky] rfl rfl (fun j u hu=>(by rw[Addr.add_lit,Nat.zero_add];exact (xaa w2 _ 59 _ rfl j).trans (by simpa using hu))) (by intro u hu;simp at hu;rcases hu with rfl | rfl | rfl | rfl | rfl<;>rfl) (by omega) (by unfold maxLen;omega) (by omega) (by first | (simp;omega) | (have:=hb2.size;simp;omega)) _ rfl ?_;intro gg3 cap3 w3 hown3 hgr3 hor3 hlt3;have hb3:=xcO hown2 (qzD hsz hb2.size) hgr3))
       go_roundg (gk-1)
       case measure=>omega
       case rel=>
        refine⟨j+1,⟨sm++[m]++[y],true,sw⟩,some ⟨gg3,0,none⟩,cap3,_,by omega,by go_num,?_,by simp,rfl,rfl,hbel.trans (hb2.trans hb3),by simpa using hown3,(HCS.out.append xbq (xcd m _ hmn (xgl hM))).append xbq (xcd y _ hyn HYC.out)⟩
        rw[HY.out HS.out]
        simp[xep,he,hg]
      ·have hg:gtN y.name m.name=false:=by unfold gtN;rw[hlt];rfl
       go_wp2_with (at_builtin;refine wpList_append_lies _ rfl (.tmp 56) (.tmp 58) 69 rfl (w.heap.size+3) 59 i0 _ 5 64 Tryz.underlying69 hi hz0 hz1 hz2 rfl (by decide) _ sm.length _ rfl ((hown.alloc _).alloc _) ⟨_,0,none⟩ 1 1 [Value.string y.name,Value.int .i64 y.args,Value.int .i64 y.temps,Value.int .i64 y.prim,Value.slice ay y.code.length ky] rfl rfl (fun j u hu=>(by rw[Addr.add_lit,Nat.zero_add];exact (xaa (World.alloc wr _) _ 59 _ (by simp) j).trans (by simpa using hu))) (by intro u hu;simp at hu;rcases hu with rfl | rfl | rfl | rfl | rfl<;>rfl) (by omega) (by unfold maxLen;omega) (by omega) (by first | (simp;omega) | (have:=hb2.size;simp;omega)) _ rfl ?_;intro gg cap2 w2 hown2 hgr hor hlt2;have hb2:=xcR hown hsz hgr)
       go_roundg (gk-1)
       case measure=>omega
       case rel=>
        refine⟨j+1,⟨sm++[y],false,sw⟩,some ⟨gg,0,none⟩,cap2,_,by omega,by go_num,?_,by simp,rfl,rfl,hbel.trans hb2,by simpa using hown2,HCS.out.append xbq (xcd y _ hyn HYC.out)⟩
        rw[HY.out HS.out]
        simp[xep,he,hg]
     ·go_wp2_with (at_builtin;refine wpList_append_lies _ rfl (.tmp 56) (.tmp 58) 69 rfl (w.heap.size+3) 59 i0 _ 5 64 Tryz.underlying69 hi hz0 hz1 hz2 rfl (by decide) _ sm.length _ rfl ((hown.alloc _).alloc _) ⟨_,0,none⟩ 1 1 [Value.string y.name,Value.int .i64 y.args,Value.int .i64 y.temps,Value.int .i64 y.prim,Value.slice ay y.code.length ky] rfl rfl (fun j u hu=>(by rw[Addr.add_lit,Nat.zero_add];exact (xaa (World.alloc wr _) _ 59 _ (by simp) j).trans (by simpa using hu))) (by intro u hu;simp at hu;rcases hu with rfl | rfl | rfl | rfl | rfl<;>rfl) (by omega) (by unfold maxLen;omega) (by omega) (by first | (simp;omega) | (have:=hb2.size;simp;omega)) _ rfl ?_;intro gg cap2 w2 hown2 hgr hor hlt2;have hb2:=xcR hown hsz hgr)
      go_roundg (gk-1)
      case measure=>omega
      case rel=>
       refine⟨j+1,⟨sm++[y],true,sw⟩,some ⟨gg,0,none⟩,cap2,_,by omega,by go_num,?_,by simp,rfl,rfl,hbel.trans hb2,by simpa using hown2,HCS.out.append xbq (xcd y _ hyn HYC.out)⟩
       rw[HY.out HS.out]
       simp[xep,he]
    ·have he':(y.name.toList == m.name.toList)=true:=he
     go_wp2_with (at_builtin;refine wpList_append_lies _ rfl (.tmp 39) (.tmp 41) 69 rfl (w.heap.size+3) 59 i0 _ 5 64 Tryz.underlying69 hi hz0 hz1 hz2 rfl (by decide) _ sm.length cs rfl ((hown.alloc _).alloc _) ⟨_,0,none⟩ 1 1 [Value.string m.name,Value.int .i64 m.args,Value.int .i64 m.temps,Value.int .i64 m.prim,Value.slice am m.code.length cm] rfl rfl (fun j u hu=>(by rw[Addr.add_lit,Nat.zero_add];exact (xaa (World.alloc wr _) _ 59 _ (by simp) j).trans (by simpa using hu))) (by intro u hu;simp at hu;rcases hu with rfl | rfl | rfl | rfl | rfl<;>rfl) (by omega) (by unfold maxLen;omega) (by omega) (by simp;omega) _ rfl ?_;intro gg cap2 w2 hown2 hgr hor hlt2;have hb2:=xcR hown hsz hgr)
     go_roundg (gk-1)
     case measure=>omega
     case rel=>
      refine⟨j+1,⟨sm++[m],true,true⟩,some ⟨gg,0,none⟩,cap2,_,by omega,by go_num,?_,by simp,rfl,rfl,hbel.trans hb2,by simpa using hown2,HCS.out.append xbq (xcd m _ hmn (xgl hM))⟩
      rw[HY.out HS.out]
      simp[xep,he]
   ·obtain rfl:j=x.mz.length:=by omega
    have hF:Hid (xph m x.mz=⟨sm,sd,sw⟩):=by show _=_;unfold xph;rw[HS.out,List.take_length]
    have hsw:Hid (sw=decide (0<=xcw x.mz m.name)):=by show _=_;rw[← xoj hRM,hF.out]
    have hlI:xl4 x.mz m=if sd then sm else sm++[m]:=by rw[← xnZ hRM];unfold xrS;rw[hF.out]
    have hj1:(x.mz.length:Int)<=(x.mz.length:Int):=by omega
    have gA':wr.heap[w.heap.size]?=some (.cells #[Value.slice (some ⟨b,o,none⟩) X.cz.length cap,Value.slice ah X.heap.length ch,Value.int .i64 X.ez] 25 (0,0)):=by rw[hbel.block _ (by omega)];exact gA
    have gB':wr.heap[w.heap.size+1]?=some (.cells #[Value.string m.name,Value.int .i64 m.args,Value.int .i64 m.temps,Value.int .i64 m.prim,Value.slice am m.code.length cm] 59 (0,0)):=by rw[hbel.block _ (by omega)];exact gB
    have mc:∀ q,wr.cell? ⟨w.heap.size+1,q,none⟩=(#[Value.string m.name,Value.int .i64 m.args,Value.int .i64 m.temps,Value.int .i64 m.prim,Value.slice am m.code.length cm]:Array Value)[q]?:=fun q=>by rw[qzB gB']
    go_upto_if 62 with (fail)
    go_cut [8] (fun ms wz=>∃ (L cap2:Nat) (az:Option Addr) (csz:List Value),ms=.slice az L cap2/\Below (w.heap.size+3) W0 wz/\wz.ownsRow (w.heap.size+3) 59 5 (.slice az L cap2) L csz/\Cells xfx 5 (InP P w) w csz (xl4 x.mz m)/\L=(xl4 x.mz m).length)
    case first=>
     cases sd
     ·simp only[Bool.false_eq_true,if_false] at hlI
      go_wp2_with (at_builtin;refine wpList_append_lies _ rfl (.tmp 63) (.tmp 65) 69 rfl (w.heap.size+3) 59 i0 _ 5 64 Tryz.underlying69 hi hz0 hz1 hz2 rfl (by decide) _ sm.length cs rfl (hown.alloc _) ⟨_,0,none⟩ 1 1 [Value.string m.name,Value.int .i64 m.args,Value.int .i64 m.temps,Value.int .i64 m.prim,Value.slice am m.code.length cm] rfl rfl (fun j u hu=>(by rw[Addr.add_lit,Nat.zero_add];exact (xaa wr _ 59 _ rfl j).trans (by simpa using hu))) (by intro u hu;simp at hu;rcases hu with rfl | rfl | rfl | rfl | rfl<;>rfl) (by omega) (by unfold maxLen;omega) (by omega) (by simp;omega) _ rfl ?_;intro gg cap2 w2 hown2 hgr hor hlt2;have hb2:=xcO hown hsz hgr)
      go_meet
      case rel=>exact⟨_,_,_,_,rfl,hbel.trans hb2,hown2,by rw[hlI];exact HCS.out.append xbq (xcd m _ hmn (xgl hM)),by rw[hlI];simp⟩
     ·simp only[if_true] at hlI;go_wp2_with fail
      go_meet
      case rel=>exact⟨_,_,_,_,rfl,hbel,hown,by rw[hlI];exact HCS.out,by rw[hlI]⟩
    case rest=>
     obtain⟨L,cap2,az,csz,rfl,hbz,hownz,hcz,hL⟩:=hcut;clear gA' gB' mc hown hbel hbw hsz HCS;have hsz:w.heap.size+3<=wc.heap.size:=by have:=hbz.size;omega
     have hbw:Below w.heap.size w wc:=hBW.trans (hbz.mono (by omega))
     have gA':wc.heap[w.heap.size]?=some (.cells #[Value.slice (some ⟨b,o,none⟩) X.cz.length cap,Value.slice ah X.heap.length ch,Value.int .i64 X.ez] 25 (0,0)):=by rw[hbz.block _ (by omega)];exact gA
     have gC':wc.heap[w.heap.size+1+1]?=some (.cells #[Value.slice none 0 0,Value.slice none 0 0,Value.int .i64 0] 25 (0,0)):=by rw[hbz.block _ (by omega)];exact gC
     have ac:∀ q,wc.cell? ⟨w.heap.size,q,none⟩=(#[Value.slice (some ⟨b,o,none⟩) X.cz.length cap,Value.slice ah X.heap.length ch,Value.int .i64 X.ez]:Array Value)[q]?:=fun q=>by rw[qzB gA']
     have rc:∀ q,wc.cell? ⟨w.heap.size+1+1,q,none⟩=(#[Value.slice none 0 0,Value.slice none 0 0,Value.int .i64 0]:Array Value)[q]?:=fun q=>by rw[qzB gC']
     have rf:∀ q,wc.frozen? ⟨w.heap.size+1+1,q,none⟩=false:=fun q=>by unfold World.frozen?;simp[gC']
     have v3':=qzA hbw v3
     by_cases hmany:xcw x.mz m.name<0/\8<=x.mz.length
     ·have hsw':sw=false:=by rw[hsw.out];simpa using hmany.1
      subst hsw';have h8:(8:Int)<=(x.mz.length:Int):=by omega
      have HE:Hid (∀ W:World,Below w.heap.size w W->xqM P w X (q:Int) m (.slice ah X.heap.length ch) (.returned (.tuple #[WV (.slice none 0 0) (.slice none 0 0) 0,.int .i64 5])) W):=fun W h=>⟨Or.inr ⟨q,x,rfl,HX.out,Or.inl ⟨hmany.1,hmany.2,rfl⟩⟩,h⟩
      clear hsw;go_wp2;refine qzK (v:=.tuple #[WV (.slice none 0 0) (.slice none 0 0) 0,.int .i64 5]) ?_ rfl (HE.out _ (xbd hbw (by omega) _ _ _))
      simp[results,Tryz.results14,go_sem,rc,rf]
     ·have HN:Hid (¬ (xcw x.mz m.name<0/\8<=x.mz.length)):=hmany
      have hLlen:L*64<=140737488351232:=by
       rw[hL];unfold xl4
       split
       ·rw[List.length_set];omega
       ·have:x.mz.length<8:=by omega
        simp
        omega
      obtain⟨ccs,hcs,hsrc⟩:=RowAt.cells HROW.out xaA;have HCC:Hid (Cells xeC 4 P w ccs X.cz):=hcs;have HSRC:Hid (∀ j u,ccs[j]?=some u->∃ a,some (⟨b,o,none⟩:Addr)=some a/\w.cell? (a.add j)=some u):=hsrc;have hcl:=hcs.1
      have hMZ:Hid (xbm (fun b=>(P b/\b<w.heap.size\/w.heap.size+3<=b)/\b<wc.heap.size) wc (.slice az L cap2) (xl4 x.mz m)):=
       xf3 xbq hownz (hcz.keep xbq (.of_below hbw) fun b hb=>⟨Or.inl hb,qzE hb.2 hbw.size⟩) hL.symm (fun b h1 h2=>⟨Or.inr h1,h2⟩) hLlen
      clear hcs hsrc hmany;have acx:=fun x q=>((xak wc x).cell (p:=⟨w.heap.size,q,none⟩) (by simp;omega)).trans (ac q)
      have hgd:sw=false->decide (8<=(x.mz.length:Int))=false:=fun h=>by
       have:=hsw.out;rw[h] at this;have h1:¬ (0<=xcw x.mz m.name):=by simpa using this
       have:=HN.out
       simp
       omega
      obtain⟨u3,hu3⟩:∃ u,ccs[q*4+3]?=some u:=by
       obtain⟨u,hu,-⟩:=xaA.there (HCC.out.2 q x HX.out) 3 (by omega)
       exact⟨u,hu⟩
      have HL:Hid (L=(xl4 x.mz m).length):=hL;have HCU:Hid (ccs[q*4+3]?=some u3):=hu3;have afc:∀ q,wc.frozen? ⟨w.heap.size,q,none⟩=false:=fun q=>by unfold World.frozen?;simp[gA']
      clear hlI hL hsw hu3
      cases hsv:sw
      ·have hgd':=hgd hsv;clear hgd
       go_wp2_with (at_builtin;refine xbl rfl (.tmp 80) (.tmp 82) 22 71 zC 4 56 rfl Tryz.underlying22 xiB rfl (by decide) (by decide) wc.heap.size rfl (xbj _ _ _ rfl) (some ⟨b,o,none⟩) X.cz.length cap rfl ccs hcl (fun j u hu=>by obtain⟨a,e,h⟩:=HSRC.out j u hu;exact⟨a,e,qzA (xaf hbw (xak _ _)) h⟩) hby ?_;intro gA capA wA hownA hgA hgAl hbA;have hA:=xaf (xak _ _) hbA;have acA:=(fun q=>(hA.cell (p:=⟨w.heap.size,q,none⟩) (by simp;omega)).trans (ac q));have afA:=(fun q=>(hA.frozen (p:=⟨w.heap.size,q,none⟩) (by simp;omega)).trans (afc q));have rcA:=(fun q=>(hA.cell (p:=⟨w.heap.size+1+1,q,none⟩) (by simp;omega)).trans (rc q));have rfA:=(fun q=>(hA.frozen (p:=⟨w.heap.size+1+1,q,none⟩) (by simp;omega)).trans (rf q));have hgc:=xeM hownA HCU.out;have hgf:=xfC hownA;have hgB:wc.heap.size<=gA:=(by rcases hgA with rfl | h;exact qzC _;simp at h;omega);have hne1:¬ gA=w.heap.size:=(by omega);have hne2:¬ w.heap.size=gA:=(by omega);have hne3:¬ gA=w.heap.size+1+1:=(by omega);have hne4:¬ w.heap.size+1+1=gA:=(by omega))
       obtain⟨hF,hFC⟩:=xkf (S1:=.slice (some ⟨gA,0,none⟩) X.cz.length capA) (S2:=.int .i64 (wrap64 (X.ez+1))) (S3:=.slice (some ⟨gA,0,none⟩) X.cz.length capA) (S4:=.slice ah X.heap.length ch) (S5:=.int .i64 (wrap64 (X.ez+1))) HX.out hbw hA hgB hsz hownA HCC.out hMZ.out hby;refine qzK (v:=.tuple #[WV (.slice (some ⟨gA,0,none⟩) X.cz.length capA) (.slice ah X.heap.length ch) (xgV X.ez),.int .i64 0]) ?_ rfl ⟨Or.inr ⟨q,x,rfl,HX.out,Or.inr ⟨HN.out,_,rfl,hFC⟩⟩,hF⟩
       simp[results,Tryz.results14,go_sem,rcA,rfA,acA,afA,hne1,hne2,hne3,hne4,xgV]
      ·clear hgd
       go_wp2_with (at_builtin;refine xbl rfl (.tmp 80) (.tmp 82) 22 71 zC 4 56 rfl Tryz.underlying22 xiB rfl (by decide) (by decide) wc.heap.size rfl (xbj _ _ _ rfl) (some ⟨b,o,none⟩) X.cz.length cap rfl ccs hcl (fun j u hu=>by obtain⟨a,e,h⟩:=HSRC.out j u hu;exact⟨a,e,qzA (xaf hbw (xak _ _)) h⟩) hby ?_;intro gA capA wA hownA hgA hgAl hbA;have hA:=xaf (xak _ _) hbA;have acA:=(fun q=>(hA.cell (p:=⟨w.heap.size,q,none⟩) (by simp;omega)).trans (ac q));have afA:=(fun q=>(hA.frozen (p:=⟨w.heap.size,q,none⟩) (by simp;omega)).trans (afc q));have rcA:=(fun q=>(hA.cell (p:=⟨w.heap.size+1+1,q,none⟩) (by simp;omega)).trans (rc q));have rfA:=(fun q=>(hA.frozen (p:=⟨w.heap.size+1+1,q,none⟩) (by simp;omega)).trans (rf q));have hgc:=xeM hownA HCU.out;have hgf:=xfC hownA;have hgB:wc.heap.size<=gA:=(by rcases hgA with rfl | h;exact qzC _;simp at h;omega);have hne1:¬ gA=w.heap.size:=(by omega);have hne2:¬ w.heap.size=gA:=(by omega);have hne3:¬ gA=w.heap.size+1+1:=(by omega);have hne4:¬ w.heap.size+1+1=gA:=(by omega))
       obtain⟨hF,hFC⟩:=xkf (S1:=.slice (some ⟨gA,0,none⟩) X.cz.length capA) (S2:=.int .i64 (wrap64 (X.ez+1))) (S3:=.slice (some ⟨gA,0,none⟩) X.cz.length capA) (S4:=.slice ah X.heap.length ch) (S5:=.int .i64 (wrap64 (X.ez+1))) HX.out hbw hA hgB hsz hownA HCC.out hMZ.out hby;refine qzK (v:=.tuple #[WV (.slice (some ⟨gA,0,none⟩) X.cz.length capA) (.slice ah X.heap.length ch) (xgV X.ez),.int .i64 0]) ?_ rfl ⟨Or.inr ⟨q,x,rfl,HX.out,Or.inr ⟨HN.out,_,rfl,hFC⟩⟩,hF⟩
       simp[results,Tryz.results14,go_sem,rcA,rfA,acA,afA,hne1,hne2,hne3,hne4,xgV]
theorem xi4 {w:World}{a:Option Addr}{cap:Nat}{P:Nat->Prop}{hs:List QO}(h:xaD P w (.slice a hs.length cap) hs):∃ cs,Cells xnN 2 P w cs hs/\∀ j u,cs[j]?=some u->∃ b,a=some b/\w.cell? (b.add j)=some u:=by
 obtain⟨a',cap',e,-,-,-,hrow⟩:=h
 cases e
 exact hrow.cells xaE
theorem xhb {h:List QO}{v:QV}{j:Nat}{o:QO}(hk:v.k=4)(hn:v.n=(j:Int))(ho:h[j]?=some o)(n:Nat)(x:QV):xaX h v n x=h.set j ⟨o.cls,o.slots.set n x⟩:=by
 unfold xaX xd2;rw[if_pos ⟨hk,by omega⟩,hn]
 simp[ho,xaW,show ¬ (n:Int)<0 by omega]
theorem xju {h:List QO}{v:QV}{j:Nat}{o:QO}(hk:v.k=4)(hn:v.n=(j:Int))(ho:h[j]?=some o)(n:Nat)(hl:o.slots.length<=n)(x:QV):xaX h v n x=h:=by
 rw[xhb hk hn ho,List.set_eq_of_length_le hl];have:=xae ho;rw[List.getElem?_eq_getElem this] at ho
 cases ho
 exact List.set_getElem_self _
theorem xiV {h:List QO}{v:QV}(n:Int)(x:QV)(hv:xd2 h v=none):xaX h v n x=h:=by unfold xaX;rw[hv]
section
variable {p:Rp} {T T':Nat->Nat} {w w':World} {mb:Nat} {m m':Mc RSt} {deep err deep' err':Int} {hv sv ov:Value}
theorem xnX {a:Option Addr}{cap g cap' g2 cap2 j n B1 B2:Nat}{o:QO}{x:QV}{w1 w2:World}{cs:List Value}(h:RMac p T w mb m deep err (.slice a m.heap.length cap) sv ov)(hcs:Cells xnN 2 (Fx T w) w cs m.heap)
  (hb1:Below w.heap.size w w1) (hown:w1.ownsRow B1 61 2 (.slice (some ⟨g,0,none⟩) m.heap.length cap') m.heap.length cs) (hB1:w.heap.size<=B1) (hb2:Below w1.heap.size w1 w2) (hown2:w2.ownsRow B2 27 2 (.slice (some ⟨g2,0,none⟩) o.slots.length cap2) o.slots.length (xam o.slots)) (hB2:w1.heap.size<=B2)
  (ho:m.heap[j]?=some o) (hn:n<o.slots.length) (hs:o.slots.length*16<=140737488351232) (hl:m.heap.length<=1000) :
  RMac p (xaF T w 0) ((((w2.setCell ⟨g2,n*2,none⟩ (.int .i64 x.k)).setCell ⟨g2,n*2+1,none⟩ (.int .i64 x.n)).setCell ⟨g,j*2+1,none⟩ (.slice (some ⟨g2,0,none⟩) o.slots.length cap2)).setCell ⟨mb,1,none⟩ (.slice (some ⟨g,0,none⟩) m.heap.length cap')) mb { m with heap:=m.heap.set j ⟨o.cls,o.slots.set n x⟩ } deep err (.slice (some ⟨g,0,none⟩) m.heap.length cap') sv ov/\
   Kp (fun t=>t=1) T w ((((w2.setCell ⟨g2,n*2,none⟩ (.int .i64 x.k)).setCell ⟨g2,n*2+1,none⟩ (.int .i64 x.n)).setCell ⟨g,j*2+1,none⟩ (.slice (some ⟨g2,0,none⟩) o.slots.length cap2)).setCell ⟨mb,1,none⟩ (.slice (some ⟨g,0,none⟩) m.heap.length cap')):=by
 have hj:=xae ho;have hlm:=xal h.box;obtain⟨hg1,hg2'⟩:=hown.lt g rfl;obtain⟨hg3,hg4⟩:=hown2.lt g2 rfl;have hz:=hb1.size;have hz2:=hb2.size;have hbw:=xaf hb1 hb2
 have k:Kp (fun t=>t=1) T w ((((w2.setCell ⟨g2,n*2,none⟩ (.int .i64 x.k)).setCell ⟨g2,n*2+1,none⟩ (.int .i64 x.n)).setCell ⟨g,j*2+1,none⟩ (.slice (some ⟨g2,0,none⟩) o.slots.length cap2)).setCell ⟨mb,1,none⟩ (.slice (some ⟨g,0,none⟩) m.heap.length cap')):=
  ((((Kp.of_below hbw).set (fun h=>by omega) _ _).set (fun h=>by omega) _ _).set (fun h=>by omega) _ _).set (fun _=>h.tag) _ _
 have hex:=xaq T w 0;refine⟨?_,k⟩
 have hgrow:w2.ownsRow B1 61 2 (.slice (some ⟨g,0,none⟩) m.heap.length cap') m.heap.length cs:=by
  obtain⟨h0,h1 | ⟨g',c,cur,e,h1,h2,h3⟩⟩:=hown
  ·cases h1.1
  ·exact⟨h0,Or.inr ⟨g',c,cur,e,h1,by rw[hb2.block _ (xal h2)];exact h2,h3⟩⟩
 have e1:=(hown2.stored (n*2) (.int .i64 x.k)).1;have e2:=(e1.stored (n*2+1) (.int .i64 x.n)).1;rw[xfk] at e2;have e3:=ownsRow_setCell_other (ownsRow_setCell_other e2 (a:=⟨g,j*2+1,none⟩) (by simp[Value.ownBlock];omega) (.slice (some ⟨g2,0,none⟩) o.slots.length cap2)) (a:=⟨mb,1,none⟩) (by simp[Value.ownBlock];omega) (.slice (some ⟨g,0,none⟩) m.heap.length cap')
 have f1:=ownsRow_setCell_other (ownsRow_setCell_other hgrow (a:=⟨g2,n*2,none⟩) (by simp[Value.ownBlock];omega) (.int .i64 x.k)) (a:=⟨g2,n*2+1,none⟩) (by simp[Value.ownBlock];omega) (.int .i64 x.n)
 have f2:=(f1.stored (j*2+1) (.slice (some ⟨g2,0,none⟩) o.slots.length cap2)).1;have f3:=ownsRow_setCell_other f2 (a:=⟨mb,1,none⟩) (by simp[Value.ownBlock];omega) (.slice (some ⟨g,0,none⟩) m.heap.length cap')
 have hbox:w2.heap[mb]?=some (RB p m deep err (.slice a m.heap.length cap) sv ov):=xad h.box hbw;generalize hU:((((w2.setCell ⟨g2,n*2,none⟩ (.int .i64 x.k)).setCell ⟨g2,n*2+1,none⟩ (.int .i64 x.n)).setCell ⟨g,j*2+1,none⟩ (.slice (some ⟨g2,0,none⟩) o.slots.length cap2)).setCell ⟨mb,1,none⟩ (.slice (some ⟨g,0,none⟩) m.heap.length cap'))=U at *;have hUz:w2.heap.size<=U.heap.size:=by rw[← hU];simp
 have hsz:w.heap.size<=U.heap.size:=by omega
 have hall:∀ b,w.heap.size<=b->b<U.heap.size->Fx (xaF T w 0) U b:=fun b h1 h2=>⟨h2,xaJ h1⟩
 have hv2:xaO (Fx (xaF T w 0) U) U (.slice (some ⟨g2,0,none⟩) o.slots.length cap2) (o.slots.set n x):=by
  have hc:Cells xpo 2 (Fx (xaF T w 0) U) U (xam (o.slots.set n x)) (o.slots.set n x):=⟨xbA _,fun i y hy=>by
   obtain⟨d1,d2⟩:=xbZ hy
   exact⟨by simpa using d1,d2⟩⟩
  exact xf3 xa1 e3 hc (by simp) (fun b h1 h2=>hall b (by omega) h2) hs
 have hc0:Cells xnN 2 (Fx (xaF T w 0) U) U cs m.heap:=hcs.keep xaE (Keeps.of_block fun b hb hl=>k.blk b hl (by rw[hb.2];omega)) fun b hb=>⟨by omega,by rw[hex b hb.1];exact hb.2⟩
 have hcl:=hc0.1
 have hc1:Cells xnN 2 (Fx (xaF T w 0) U) U (cs.set (j*2+1) (.slice (some ⟨g2,0,none⟩) o.slots.length cap2)) (m.heap.set j ⟨o.cls,o.slots.set n x⟩):=by
  refine hc0.setAt xaE hj (by simp) (fun i hi=>?_) ?_
  ·rw[List.getElem?_set_ne (by omega)]
  ·obtain⟨d1,-⟩:=hc0.2 j o ho
   exact⟨by show (cs.set _ _)[j*2+0]?=_;rw[List.getElem?_set_ne (by omega)];exact d1,_,by show (cs.set _ _)[j*2+1]?=_;rw[List.getElem?_set_self (by omega)],hv2⟩
 have hb':U.heap[mb]?=some (RB p { m with heap:=m.heap.set j ⟨o.cls,o.slots.set n x⟩ } deep err (.slice (some ⟨g,0,none⟩) m.heap.length cap') sv ov):=by
  rw[← hU];refine xnH (hv:=.slice a m.heap.length cap) ?_ _ _;rw[xac (by omega),xac (by omega),xac (by omega)]
  exact hbox
 have hs1:=h.sites.keep (w':=U) fun b hg=>k.blk b (h.sites.lt b hg).2 (by rw[h.stag b hg];omega)
 have ho1:=h.of.keep (w':=U) fun b hg=>k.blk b (h.of.lt b hg).2 (by rw[h.otag b hg];omega)
 exact⟨hb',by rw[hex _ hlm];exact h.tag,h.cls.fx xaA hex k (by omega),xf3 xaE f3 hc1 (by simp) (fun b h1 h2=>hall b (by omega) h2) (by omega),hs1,fun b hg=>by rw[hex _ (h.sites.lt b hg).2];exact h.stag b hg,ho1,fun b hg=>by rw[hex _ (h.of.lt b hg).2];exact h.otag b hg⟩
def xq6 (p:Rp)(T:Nat->Nat)(w:World)(mb:Nat)(m:Mc RSt)(deep err:Int)(sv ov:Value)(e:Ending)(w':World):Prop:=
 e=.returned (.tuple #[])/\(∃ T' hv',Ext T T' w/\RMac p T' w' mb m deep err hv' sv ov)/\Kp (fun t=>t=1) T w w'
theorem xoW (h:RMac p T w mb m deep err hv sv ov)(v:QV)(n:Nat)(x:QV)(hw:xax m.heap.length v=0)(hl:m.heap.length<=1000):Calls Tryz.prog 73 #[.pointer (some ⟨mb,0,none⟩),VV v,.int .i64 (n:Int),VV x] w fun e w'=>xq6 p T w mb { m with heap:=xaX m.heap v n x } deep err sv ov e w':=by
 have hlm:=xal h.box;have hb1:=xbP w (.cells #[.int .i64 v.k,.int .i64 v.n] 27) (.cells #[.int .i64 x.k,.int .i64 x.n] 27);obtain⟨a,cap,rfl,hl1,hcap,-,-⟩:=id h.heap;unfold maxLen at hcap;obtain⟨cs,hcs,hsrc⟩:=xi4 h.heap;have a0:=qzA (xak _ (.cells #[.int .i64 x.k,.int .i64 x.n] 27)) (show (w.alloc (.cells #[.int .i64 v.k,.int .i64 v.n] 27)).cell? ⟨w.heap.size,0,none⟩=some (.int .i64 v.k) from xaa _ _ _ _ rfl 0)
 have a1:=qzA (xak _ (.cells #[.int .i64 x.k,.int .i64 x.n] 27)) (show (w.alloc (.cells #[.int .i64 v.k,.int .i64 v.n] 27)).cell? ⟨w.heap.size,1,none⟩=some (.int .i64 v.n) from xaa _ _ _ _ rfl 1)
 have x0:=xaa (w.alloc (.cells #[.int .i64 v.k,.int .i64 v.n] 27)) #[.int .i64 x.k,.int .i64 x.n] 27 (w.heap.size+1) (by simp) 0
 have x1:=xaa (w.alloc (.cells #[.int .i64 v.k,.int .i64 v.n] 27)) #[.int .i64 x.k,.int .i64 x.n] 27 (w.heap.size+1) (by simp) 1
 have h1:=h.later hb1;have HH:=hid h;have hz1:w.heap.size+2<=((w.alloc (.cells #[.int .i64 v.k,.int .i64 v.n] 27)).alloc (.cells #[.int .i64 x.k,.int .i64 x.n] 27)).heap.size:=by simp
 go_enter Tryz.func73,Tryz.ntmps73
 go_upto_region 1 with (fail)
 generalize ((w.alloc (.cells #[.int .i64 v.k,.int .i64 v.n] 27)).alloc (.cells #[.int .i64 x.k,.int .i64 x.n] 27))=W at *
 simp at x0 x1
 have c1:=qzA (xak W (.cells #[] 61)) h1.c1;have hlen:=hcs.1
 go_upto_region 2 with (at_builtin;refine xbl rfl (.tmp 10) (.tmp 15) 23 61 _ 2 32 rfl Tryz.underlying23 xh9 rfl (by omega) (by omega) W.heap.size rfl (qzJ _ _) a m.heap.length cap rfl cs hlen (fun j u hj=>by obtain⟨b,e,h⟩:=hsrc j u hj;exact⟨b,e,qzA (xaf hb1 (xak _ _)) h⟩) (by omega) ?_;intro g cap' w1 hown hg hgl hbA)
 have hbB:Below W.heap.size W w1:=xea (qzL _ _) hbA;have hbw:=xaf hb1 hbB;replace a0:=qzA hbB a0;replace a1:=qzA hbB a1;replace x0:=qzA hbB x0;replace x1:=qzA hbB x1;replace h1:=h1.later hbB
 have hgW:W.heap.size<=g:=by
  rcases hg with h | h
  ·omega
  ·have hh:=h
   simp at hh;omega
 have hz2:=hbB.size;clear hbA hg c1 hb1 hbB
 have hend:xaX m.heap v n x=m.heap->(∃ T' hv',Ext T T' w/\RMac p T' w1 mb { m with heap:=xaX m.heap v n x } deep err hv' sv ov)/\Kp (fun t=>t=1) T w w1:=fun e=>by
  rw[e];exact⟨⟨T,_,.refl _ _,h1⟩,Kp.of_below hbw⟩
 have HE:=hid hend;clear hend
 by_cases hk:v.k=4
 ·obtain⟨j,hj,hjl⟩:∃ j:Nat,v.n=(j:Int)/\j<m.heap.length:=by
   unfold xax xcu at hw;rw[hk] at hw;refine⟨v.n.toNat,?_,?_⟩<;>(simp at hw;omega)
  have ho:m.heap[j]?=some m.heap[j]:=by simp[hjl]
  have HO:=hid ho;generalize m.heap[j]=o at *;obtain⟨d0,sl,d1,hsl⟩:=hcs.2 j o ho;obtain⟨asl,csl,rfl,hl2,hc2,hby2,hrs⟩:=id hsl;have u1:w1.cell? ⟨g,j*2+1,none⟩=some (.slice asl o.slots.length csl):=xeM hown d1;have uf:=xfC hown;have hj1:(j:Int)<(m.heap.length:Int):=by omega
  have hj0:(0:Int)<=(j:Int):=by omega
  have hkk:(v.k == 4)=true:=by simpa using hk
  rw[hj] at a1;rw[hk] at a0;unfold maxLen at hc2;have HKN:=hid (And.intro hk hj);clear hk hj hkk d0 d1 ho hw
  by_cases hn:n<o.slots.length
  ·have hn1:(n:Int)<(o.slots.length:Int):=by omega
   have hn0:(0:Int)<=(n:Int):=by omega
   have HS:Hid (xaX m.heap v n x=m.heap.set j ⟨o.cls,o.slots.set n x⟩):=xhb HKN.out.1 HKN.out.2 HO.out n x;obtain⟨vs,hvs,hvsrc⟩:=hrs.cells xa1;have hvc:=xcy (E:=()) hvs;subst hvc;have hvl:=hvs.1;have HV:=hid hvsrc;clear hvsrc hvs hrs HE;have HOW:=hid hown;clear hown;have u1a:=qzA (xak w1 (.cells #[] 27)) u1;have a1a:=qzA (xak w1 (.cells #[] 27)) a1
   go_upto_region 4 with (at_builtin;refine xbl rfl (.tmp 38) (.tmp 44) 28 27 _ 2 16 rfl Tryz.underlying28 xcg rfl (by omega) (by omega) w1.heap.size rfl (qzJ _ _) asl o.slots.length csl rfl (xam o.slots) hvl (fun j u hj=>by obtain⟨b,e,h⟩:=HV.out j u hj;exact⟨b,e,qzA (xaf hbw (xak _ _)) h⟩) hby2 ?_;intro g2 cap2 w2 hown2 hg2 hgl2 hbA)
   have hbB:Below w1.heap.size w1 w2:=xea (qzL _ _) hbA
   have hgW2:w1.heap.size<=g2:=by
    rcases hg2 with h | h
    ·omega
    ·have hh:=h
     simp at hh;omega
   obtain⟨f1,f2⟩:=xnX (x:=x) HH.out hcs hbw HOW.out (by omega) hbB hown2 (qzC _) HO.out hn hby2 hl
   have F1:=hid f1;have F2:=hid f2;clear f1 f2;replace a1:=qzA hbB a1;replace x0:=qzA hbB x0;replace x1:=qzA hbB x1;obtain⟨z0,z1⟩:=xbZ (show o.slots[n]?=some o.slots[n] by simp[hn])
   have y0:=xeM hown2 z0;have y1:=xeM hown2 z1;have yf:=xfC hown2;have u1':=qzA hbB u1;have uf':∀ o,w2.frozen? ⟨g,o,none⟩=false:=fun o=>(hbB.frozen (p:=⟨g,o,none⟩) hgl).trans (uf o)
   have m1:=(h1.later hbB).c1;have mf:=xap (h1.later hbB).box;have hmw:mb<w1.heap.size:=xal h1.box;have q1:¬ g2=g:=by omega
   have q2:¬ g=g2:=by omega
   have q3:¬ g2=mb:=by omega
   have q4:¬ mb=g2:=by omega
   have q5:¬ g=mb:=by omega
   have q6:¬ mb=g:=by omega
   have q7:¬ g2=w.heap.size:=by omega
   have q8:¬ w.heap.size=g2:=by omega
   have q9:¬ g2=w.heap.size+1:=by omega
   have q10:¬ w.heap.size+1=g2:=by omega
   have q11:¬ g=w.heap.size:=by omega
   have q12:¬ w.heap.size=g:=by omega
   clear hbA hg2 hown2 u1 uf z0 z1 h1 u1a a1a;go_wp2;rw[HS.out]
   exact bodyPost_end (v:=.tuple #[]) (by simp[results,Tryz.results73,go_sem]) rfl ⟨rfl,⟨_,_,xaq T w 0,F1.out⟩,F2.out⟩
  ·have hn1:¬ (n:Int)<(o.slots.length:Int):=by omega
   have hn2:(o.slots.length:Int)<=(n:Int):=by omega
   have hn3:o.slots.length<=n:=by omega
   have HS:=hid (HE.out (xju HKN.out.1 HKN.out.2 HO.out n (by omega) x))
   clear hn HE;go_wp2
   exact bodyPost_end (v:=.tuple #[]) (by simp[results,Tryz.results73,go_sem]) rfl ⟨rfl,HS.out.1,HS.out.2⟩
 ·have hkk:(v.k == 4)=false:=by simpa using hk
  have HS:=hid (HE.out (xiV n x (by unfold xd2;rw[if_neg (by omega)])))
  clear hk HE hw;go_wp2
  exact bodyPost_end (v:=.tuple #[]) (by simp[results,Tryz.results73,go_sem]) rfl ⟨rfl,HS.out.1,HS.out.2⟩
end
end Go.Proofs.YtaodadfahifbpaaGreat
