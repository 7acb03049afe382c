/- A part. -/
import Derived.Test.YtbafokihegegiaaGreatDoorM24
namespace Go.Proofs.YtbafokihegegiaaGreatDoor
open Go.ChangeShapes Go.WideShapes Go.ChangeAt Go.RowKit
set_option linter.unusedSimpArgs false
set_option linter.unusedVariables false
set_option maxHeartbeats 8000000
set_option maxRecDepth 8000
def bs (s:String):ByteArray:=s.toUTF8
def in_ (op a:Int):QI:=⟨op,a,0,0,⟨#[]⟩⟩
def sd (name:ByteArray)(a:Int):QI:=⟨14,a,0,0,name⟩
def xdJ (lt gt pl:ByteArray):List QI:=[in_ 5 0,in_ 11 0,in_ 5 0,in_ 11 1,in_ 3 1,in_ 2 0,sd lt 1,in_ 16 18,in_ 3 0,in_ 1 0,sd gt 0,sd pl 1,in_ 11 0,in_ 3 1,in_ 5 1,sd pl 1,in_ 11 1,in_ 15 4,in_ 3 0,in_ 17 0]
section
variable {cs:List QC} {fuel:Int} {ent:Ent Unit} {lt gt pl:ByteArray} {H:List QO} {sf:QV} {n:Int}
structure TimesOk (cs:List QC)(fuel:Int)(ent:Ent Unit)(lt gt pl:ByteArray)(H:List QO)(sf:QV)(n:Int):Prop where
 less:∀ (m:Mc Unit) (a b:Int),m.sz_<fuel->ent m (xak cs 3 lt).1 (xak cs 3 lt).2 ⟨3,a⟩ [⟨3,b⟩]=(⟨m.heap,m.sz_+1,m.tz,()⟩,⟨if a<b then 2 else 1,0⟩,0)
 plus:∀ (m:Mc Unit) (a b:Int),m.sz_<fuel->ent m (xak cs 3 pl).1 (xak cs 3 pl).2 ⟨3,a⟩ [⟨3,b⟩]=(⟨m.heap,m.sz_+1,m.tz,()⟩,⟨3,(a+b).tmod 1073741825⟩,0)
 got:∀ (m:Mc Unit),m.heap=H->m.sz_<fuel->ent m (xak cs (xap H sf) gt).1 (xak cs (xap H sf) gt).2 sf []=(⟨H,m.sz_+1,m.tz,()⟩,⟨3,n⟩,0)
theorem mx1:(max (1:Int) 0).toNat=1:=by decide
theorem mx0:(max (0:Int) 0).toNat=0:=by decide
abbrev tmF (c:Int)(mt:QM)(sf:QV)(t a i:Int)(lt gt pl:ByteArray):Fr:=⟨c,mt,sf,[⟨3,t⟩],[⟨3,a⟩,⟨3,i⟩],[],xdJ lt gt pl,4,false⟩
theorem xnO (h:TimesOk cs fuel ent lt gt pl H sf n)(d:Nat)(c:Int)(mt:QM)(g:Nat)(s u t a i:Int)(hs:s<fuel)(hu:u<=300)(hi:t<=i):xck ent ⟨cs,fuel,fun _ _ c name=>((),xak cs c name),xbV⟩ d (g+6) ⟨H,s,u,()⟩ (tmF c mt sf t a i lt gt pl)=(⟨H,s+1,u,()⟩,⟨3,a⟩,0):=by
 have e1:=h.less ⟨H,s,u,()⟩ i t hs;have h1:¬ i<t:=by omega
 have h2:¬ 300<u:=by omega
 simp[xck,xaj,xan,xdJ,in_,sd,tmF,Fr.push,Fr.pop,Fr.top,xaL,xaK,xaP,xbO,xbI,mx1,mx0,xa3,xbQ,xap,e1,h1,h2]
theorem xkU (h:TimesOk cs fuel ent lt gt pl H sf n)(d:Nat)(c:Int)(mt:QM)(g:Nat)(s u t a i:Int)(hs:s+4<=fuel)(hu:u<300)(hi:i<t)(ha:(a+n).tmod 1073741825=a+n)(hi2:(i+1).tmod 1073741825=i+1):xck ent ⟨cs,fuel,fun _ _ c name=>((),xak cs c name),xbV⟩ d (g+14) ⟨H,s,u,()⟩ (tmF c mt sf t a i lt gt pl)=xck ent ⟨cs,fuel,fun _ _ c name=>((),xak cs c name),xbV⟩ d g ⟨H,s+4,u+1,()⟩ (tmF c mt sf t (a+n) (i+1) lt gt pl):=by
 have e1:=h.less ⟨H,s,u,()⟩ i t (by show _<_;simp only;omega)
 have e2:=h.got ⟨H,s+1,u,()⟩ rfl (by show _<_;simp only;omega)
 have e3:=h.plus ⟨H,s+1+1,u,()⟩ a n (by show _<_;simp only;omega)
 have e4:=h.plus ⟨H,s+1+1+1,u,()⟩ i 1 (by show _<_;simp only;omega)
 rw[ha] at e3;rw[hi2] at e4;have c3:∀ x:Int,xap H ⟨3,x⟩=3:=fun x=>by simp[xap]
 have hu2:¬ (300<u+1):=by omega
 have hsum:s+1+1+1+1=s+4:=by omega
 simp[xck,xaj,xan,xdJ,in_,sd,tmF,Fr.push,Fr.pop,Fr.top,xaL,xaK,xaP,xbO,xbI,mx1,mx0,xa3,xbQ,c3,e1,e2,e3,e4,hi,hu2,hsum]
theorem xil {x:Int}(h0:-1000000<=x)(h1:x<=1000000):x.tmod 1073741825=x:=by
 by_cases h:0<=x
 ·exact Int.tmod_eq_of_lt h (by omega)
 ·have:(-x).tmod 1073741825=-x:=Int.tmod_eq_of_lt (by omega) (by omega)
  rw[Int.neg_tmod] at this
  omega
theorem xim (h:TimesOk cs fuel ent lt gt pl H sf n)(d:Nat)(c:Int)(mt:QM)(hn0:-1000<=n)(hn1:n<=1000):∀ (k:Nat) (g:Nat) (s u t a i:Int),i+k=t->s+4*k+1<=fuel->u+k<=300->0<=i->t<=60->a=n*i->
  xck ent ⟨cs,fuel,fun _ _ c name=>((),xak cs c name),xbV⟩ d (g+6+14*k) ⟨H,s,u,()⟩ (tmF c mt sf t a i lt gt pl)=(⟨H,s+4*k+1,u+k,()⟩,⟨3,n*t⟩,0)
 | 0,g,s,u,t,a,i,hk,hs,hu,hi,ht,ha=>by
  have e:=xnO h d c mt g s u t a i (by omega) (by omega) (by omega)
  simp only[Nat.mul_zero,Nat.add_zero];rw[e,ha];have:i=t:=by omega
  subst this
  simp
 | k+1,g,s,u,t,a,i,hk,hs,hu,hi,ht,ha=>by
  have b0:-60000<=n*i:=by
   have h1:n*i≥-1000*i:=Int.mul_le_mul_of_nonneg_right hn0 hi
   omega
  have b1:n*i<=60000:=by
   have h1:n*i<=1000*i:=Int.mul_le_mul_of_nonneg_right hn1 hi
   omega
  have e:=xkU h d c mt (g+6+14*k) s u t a i (by omega) (by omega) (by omega) (xil (by omega) (by omega)) (xil (by omega) (by omega))
  rw[show g+6+14*(k+1)=g+6+14*k+14 by omega,e,xim h d c mt hn0 hn1 k g (s+4) (u+1) t (a+n) (i+1) (by omega) (by omega) (by omega) (by omega) ht (by rw[ha,Int.mul_add];omega)]
  simp only[Prod.mk.injEq,Mc.mk.injEq,true_and,and_true]
  exact⟨by omega,by omega⟩
theorem xkn (d:Nat)(c:Int)(mt:QM)(g:Nat)(m:Mc Unit)(t:Int):xck ent ⟨cs,fuel,fun _ _ c name=>((),xak cs c name),xbV⟩ d (g+4) m ⟨c,mt,sf,[⟨3,t⟩],xaC 2,[],xdJ lt gt pl,0,false⟩=xck ent ⟨cs,fuel,fun _ _ c name=>((),xak cs c name),xbV⟩ d g m (tmF c mt sf t 0 0 lt gt pl):=by
 have hr:xaC 2=[xa4,xa4]:=rfl;rw[hr]
 simp[xck,xaj,xan,xdJ,in_,sd,tmF,Fr.push,Fr.pop,Fr.top,xaL,xaK,xaP]
theorem xlF (d:Nat)(c:Int)(name:ByteArray)(p:Int)(hp:p≠0)(hm:∃ mt,xaz cs (xak cs c name).1 (xak cs c name).2=some mt/\mt.args=1/\mt.prim=p)(m:Mc Unit)(a b:QV)(hs:m.sz_<fuel):xbh ⟨cs,fuel,fun _ _ c name=>((),xak cs c name),xbV⟩ d m (xak cs c name).1 (xak cs c name).2 a [b]=(⟨m.heap,m.sz_+1,m.tz,()⟩,xcV p a b):=by
 obtain⟨mt,h1,h2,h3⟩:=hm;have hf:¬ fuel<=m.sz_:=by omega
 cases d with
 | zero=>unfold xbh xbs;simp only[h1];simp[h2,h3,hp,hf,xaK]
 | succ d=>unfold xbh xbs;simp only[h1];simp[h2,h3,hp,hf,xaK]
theorem xrd (d:Nat)(c:Int)(name:ByteArray)(q:QI)(w:QV)(hm:∃ mt,xaz cs (xak cs c name).1 (xak cs c name).2=some mt/\mt.args=0/\mt.prim=0/\mt.code=[q,in_ 17 0])(hq:∀ f:Fr,f.self=sf->xan H f q=some w)(h17:q.op≠17)(m:Mc Unit)(hH:m.heap=H)(hs:m.sz_<fuel):xbh ⟨cs,fuel,fun _ _ c name=>((),xak cs c name),xbV⟩ (d+1) m (xak cs c name).1 (xak cs c name).2 sf []=(⟨H,m.sz_+1,m.tz,()⟩,w,0):=by
 obtain⟨mt,h1,h2,h3,h4⟩:=hm;have hf:¬ fuel<=m.sz_:=by omega
 obtain⟨g,hg⟩:∃ g,xi6 ⟨(xak cs c name).1,mt,sf,[],xaC mt.temps,[],mt.code,0,false⟩=g+2:=⟨700*(mt.code.length+mt.code.length+1)-2,by unfold xi6;simp only;omega⟩
 have hc:xar (⟨cs,fuel,fun _ _ c name=>((),xak cs c name),xbV⟩:Env Unit) (d+1) m=(⟨m.heap,m.sz_+1,m.tz,()⟩,0):=by unfold xar;rw[if_neg hf,if_neg (by omega)]
 have hp:=hq ⟨(xak cs c name).1,mt,sf,[],xaC mt.temps,[],mt.code,0+1,false⟩ rfl;subst hH
 have key:∀ ent:Ent Unit,xck ent ⟨cs,fuel,fun _ _ c name=>((),xak cs c name),xbV⟩ d (g+2) ⟨m.heap,m.sz_+1,m.tz,()⟩ ⟨(xak cs c name).1,mt,sf,[],xaC mt.temps,[],mt.code,0,false⟩=(⟨m.heap,m.sz_+1,m.tz,()⟩,w,0):=fun ent=>by
  rw[h4] at hp ⊢;simp only[Int.zero_add,in_] at hp
  simp[xck,xaj,hp,h17,in_,Fr.push,Fr.top,xaL,xaK]
 have hfr:xaT (⟨cs,fuel,fun _ _ c name=>((),xak cs c name),xbV⟩:Env Unit) (xak cs c name).1 (xak cs c name).2 mt sf []=⟨(xak cs c name).1,mt,sf,[],xaC mt.temps,[],mt.code,0,false⟩:=rfl
 unfold xbh xbs;simp only[h1,hc,hfr,hg,key];rw[if_neg (by simp[h2]),if_neg (by simp[h3]),if_neg (by simp)]
theorem xpj {d:Nat}{q:QI}(hlt:∃ mt,xaz cs (xak cs 3 lt).1 (xak cs 3 lt).2=some mt/\mt.args=1/\mt.prim=4)(hpl:∃ mt,xaz cs (xak cs 3 pl).1 (xak cs 3 pl).2=some mt/\mt.args=1/\mt.prim=1)
  (hgt:∃ mt,xaz cs (xak cs (xap H sf) gt).1 (xak cs (xap H sf) gt).2=some mt/\mt.args=0/\mt.prim=0/\mt.code=[q,in_ 17 0]) (hq:∀ f:Fr,f.self=sf->xan H f q=some ⟨3,n⟩) (h17:q.op≠17):TimesOk cs fuel (xbh ⟨cs,fuel,fun _ _ c name=>((),xak cs c name),xbV⟩ (d+1)) lt gt pl H sf n where
 less:=fun m a b hs=>by rw[xlF (d+1) 3 lt 4 (by decide) hlt m _ _ hs];simp[xcV]
 plus:=fun m a b hs=>by rw[xlF (d+1) 3 pl 1 (by decide) hpl m _ _ hs];simp[xcV]
 got:=fun m hm hs=>xrd d _ gt q ⟨3,n⟩ hgt hq h17 m hm hs
theorem xkN {X:QW}{tn:ByteArray}{q:QI}{t:Int}(ht0:0<=t)(ht1:t<=60)(hn0:-1000<=n)(hn1:n<=1000)(hw:xaH X sf tn [⟨3,t⟩] 400=0)
  (hm:∃ mt,xaz X.cz (xak X.cz (xap X.heap sf) tn).1 (xak X.cz (xap X.heap sf) tn).2=some mt/\mt.args=1/\mt.temps=2/\mt.prim=0/\mt.code=xdJ lt gt pl)
  (hlt:∃ mt,xaz X.cz (xak X.cz 3 lt).1 (xak X.cz 3 lt).2=some mt/\mt.args=1/\mt.prim=4) (hpl:∃ mt,xaz X.cz (xak X.cz 3 pl).1 (xak X.cz 3 pl).2=some mt/\mt.args=1/\mt.prim=1)
  (hgt:∃ mt,xaz X.cz (xak X.cz (xap X.heap sf) gt).1 (xak X.cz (xap X.heap sf) gt).2=some mt/\mt.args=0/\mt.prim=0/\mt.code=[q,in_ 17 0]) (hq:∀ f:Fr,f.self=sf->xan X.heap f q=some ⟨3,n⟩) (h17:q.op≠17) :
  xa2 X sf tn [⟨3,t⟩] 400=⟨X.heap,⟨3,n*t⟩,0,4*t+2⟩:=by
 obtain⟨mt,h1,h2,h3,h4,h5⟩:=hm;obtain⟨k,rfl⟩:∃ k:Nat,t=(k:Int):=⟨t.toNat,by omega⟩
 have hT:=xpj (cs:=X.cz) (fuel:=400) (d:=18) hlt hpl hgt hq h17
 obtain⟨g,hg⟩:∃ g,xi6 ⟨(xak X.cz (xap X.heap sf) tn).1,mt,sf,[⟨3,(k:Int)⟩],xaC mt.temps,[],mt.code,0,false⟩=g+6+14*k+4:=⟨28700-10-14*k,by
  unfold xi6;simp only[h5];have:(xdJ lt gt pl).length=20:=rfl;rw[this]
  omega⟩
 have key:xmJ X sf tn [⟨3,(k:Int)⟩] 400=(⟨X.heap,0+1+4*k+1,0+k,()⟩,⟨3,n*k⟩,0):=by
  have hL:=xim hT 19 (xak X.cz (xap X.heap sf) tn).1 mt hn0 hn1 k g (0+1) 0 k 0 0 (by omega) (by omega) (by omega) (by omega) ht1 (by simp)
  rw[← xkn] at hL;have hfr:xaT (xbk X 400) (xak X.cz (xap X.heap sf) tn).1 (xak X.cz (xap X.heap sf) tn).2 mt sf [⟨3,(k:Int)⟩]=⟨(xak X.cz (xap X.heap sf) tn).1,mt,sf,[⟨3,(k:Int)⟩],xaC mt.temps,[],mt.code,0,false⟩:=rfl;have hc:xar (xbk X 400) 20 (⟨X.heap,0,0,()⟩:Mc Unit)=(⟨X.heap,0+1,0,()⟩,0):=by unfold xar xbk;rw[if_neg (by simp),if_neg (by omega)]
  unfold xmJ
  show xbh (xbk X 400) (19+1) _ _ _ _ _=_
  unfold xbh xbs;have h1':xaz (xbk X 400).cz (xak X.cz (xap X.heap sf) tn).1 (xak X.cz (xap X.heap sf) tn).2=some mt:=h1;simp only[h1'];rw[if_neg (by simp[h2]),if_neg (by simp[h4])]
  show (if (xar (xbk X 400) 20 _).2≠0 then _ else xck _ _ _ _ (xar (xbk X 400) 20 _).1 _)=_
  rw[hc,if_neg (by simp),hfr,hg,h3,h5]
  exact hL
 unfold xa2;rw[if_neg (by simp[hw]),key]
 simp
 omega
end
set_option maxRecDepth 100000
def nm (l:List UInt8):ByteArray:=⟨l.toArray⟩
def noM:QM:=⟨⟨#[]⟩,0,0,0,[]⟩
def xtd (name:ByteArray)(c slots:Int):StE:=⟨1,c,slots,name,noM,xa4,⟨#[]⟩,[]⟩
def xrb (c:Int)(name:ByteArray)(args temps:Int)(code:List QI):StE:=⟨2,c,0,⟨#[]⟩,⟨name,args,temps,0,code⟩,xa4,⟨#[]⟩,[]⟩
def xtb (c:Int):StE:=⟨3,c,0,⟨#[]⟩,noM,xa4,⟨#[]⟩,[]⟩
def xdj (kind:Int)(v:QV)(name:ByteArray)(args:List QV):StE:=⟨kind,0,0,⟨#[]⟩,noM,v,name,args⟩
def xo5:ByteArray:=nm [103,101,116]
def xlb:ByteArray:=nm [115,101,116]
def xgg:ByteArray:=nm [116,105,109,101,115]
def xrq:ByteArray:=nm [60]
def xrc:ByteArray:=nm [43]
def xik:List StE:=[xtd (nm [66,111,120]) 0 1,xrb 4 xo5 0 0 [in_ 4 0,in_ 17 0],xrb 4 xlb 1 0 [in_ 2 0,in_ 12 0,in_ 1 0,in_ 17 0],xrb 4 xgg 1 2 (xdJ xrq xo5 xrc),xtb 4]
def xto:List QC:=xo1++[⟨nm [66,111,120],0,1,[⟨xo5,0,0,0,[in_ 4 0,in_ 17 0]⟩,⟨xlb,1,0,0,[in_ 2 0,in_ 12 0,in_ 1 0,in_ 17 0]⟩,⟨xgg,1,2,0,xdJ xrq xo5 xrc⟩]⟩]
def xo0 (v:QV):QW:=⟨xto,[⟨4,[v]⟩],3⟩
theorem xos:xcs ⟨xlV,[],[],[]⟩ xik=⟨xo0 xa4,[],[],[]⟩:=by kernel_rfl
theorem xks:xaW ⟨xlV,[],[],[]⟩ xik=[⟨0,4,xa4⟩,⟨0,0,xa4⟩,⟨0,0,xa4⟩,⟨0,0,xa4⟩,⟨0,0,⟨4,0⟩⟩]:=by kernel_rfl
theorem xoY {n:Int}(h0:-1000<=n)(h1:n<=1000){H:Int}:xaM H ⟨3,n⟩=0:=by
 simp[xaM,xdp]
 omega
theorem xpq (s:Sn)(v:QV)(name:ByteArray)(args:List QV):doE s (xdj 4 v name args)=(⟨⟨s.X.cz,(xa2 s.X v name args 400).heap,s.X.ez⟩,s.cells,s.ts,s.saved⟩,xeR (xa2 s.X v name args 400)):=by simp[doE,xdj]
theorem xer:∀ (l m:List StE) (s:Sn),xaW s (l++m)=xaW s l++xaW (xcs s l) m
 | [],_,_=>rfl
 | x :: l,m,s=>by
  show (doE s x).2 :: xaW (doE s x).1 (l++m)=(doE s x).2 :: (xaW (doE s x).1 l++xaW (xcs (doE s x).1 l) m)
  rw[xer l m]
set_option maxRecDepth 8000
abbrev InV (op a b c:Int)(name:ByteArray):Value:=.agg #[.int .i64 op,.int .i64 a,.int .i64 b,.int .i64 c,.string name]
theorem xca (op a:Int)(w:World):Calls Tryz.prog 27 #[.int .i64 op,.int .i64 a] w fun e w'=>e=.returned (InV op a 0 0 ⟨#[]⟩)/\Below w.heap.size w w':=by
 go_enter Tryz.func27,Tryz.ntmps27;go_wp2;refine bodyPost_ret (v:=InV op a 0 0 ⟨#[]⟩) ?_ rfl ⟨rfl,xai _ _⟩
 simp[results,Tryz.results27,go_sem]
theorem xe4 (name:ByteArray)(a:Int)(w:World):Calls Tryz.prog 28 #[.string name,.int .i64 a] w fun e w'=>e=.returned (InV 14 a 0 0 name)/\Below w.heap.size w w':=by
 go_enter Tryz.func28,Tryz.ntmps28;go_wp2;refine bodyPost_ret (v:=InV 14 a 0 0 name) ?_ rfl ⟨rfl,xai _ _⟩
 simp[results,Tryz.results28,go_sem]
theorem xeA (n:Int)(w:World):Calls Tryz.prog 25 #[.int .i64 n] w fun e w'=>e=.returned (VV ⟨3,n⟩)/\Below w.heap.size w w':=by
 go_enter Tryz.func25,Tryz.ntmps25;go_wp2;refine bodyPost_ret (v:=VV ⟨3,n⟩) ?_ rfl ⟨rfl,xai _ _⟩
 simp[results,Tryz.results25,go_sem]
theorem xkQ (n:Int)(w:World):Calls Tryz.prog 24 #[.int .i64 n] w fun e w'=>e=.returned (VV ⟨4,n⟩)/\Below w.heap.size w w':=by
 go_enter Tryz.func24,Tryz.ntmps24;go_wp2;refine bodyPost_ret (v:=VV ⟨4,n⟩) ?_ rfl ⟨rfl,xai _ _⟩
 simp[results,Tryz.results24,go_sem]
theorem xeK (c:Int)(name:ByteArray)(args temps:Int)(ad:Option Addr)(n k:Nat)(w:World)(code:List QI):Calls Tryz.prog 26 #[.int .i64 c,.string name,.int .i64 args,.int .i64 temps,.slice ad n k] w fun e w'=>e=.returned (StV (xrb c name args temps code) (.slice ad n k) (.slice none 0 0))/\Below w.heap.size w w':=by
 go_enter Tryz.func26,Tryz.ntmps26;go_wp2;refine bodyPost_ret (v:=StV (xrb c name args temps code) (.slice ad n k) (.slice none 0 0)) ?_ rfl ⟨rfl,xai _ _⟩
 simp[results,Tryz.results26,go_sem,xrb,xa4]
theorem xgl (kind:Int)(v:QV)(name:ByteArray)(ad:Option Addr)(n k:Nat)(w:World)(args:List QV):Calls Tryz.prog 23 #[.int .i64 kind,VV v,.string name,.slice ad n k] w fun e w'=>e=.returned (StV (xdj kind v name args) (.slice none 0 0) (.slice ad n k))/\Below w.heap.size w w':=by
 go_enter Tryz.func23,Tryz.ntmps23;go_wp2;refine bodyPost_ret (v:=StV (xdj kind v name args) (.slice none 0 0) (.slice ad n k)) ?_ rfl ⟨rfl,xbp _ _ _⟩
 simp[results,Tryz.results23,go_sem,xdj,noM]
def xdV (x:StE)(mv av:Value):List Value:=[.int .i64 x.kind,.string x.name,.int .i64 x.cls,.int .i64 x.slots,.string x.meth.name,.int .i64 x.meth.args,.int .i64 x.meth.temps,.int .i64 x.meth.prim,mv,.int .i64 x.sf.k,.int .i64 x.sf.n,.string x.cname,av]
theorem xcS {P:Nat->Prop}{w:World}{x:StE}{mv av:Value}(hN:NamesOk x)(hM:xaG P w mv x.meth.code)(hA:xaV P w av x.args):Cells xrV 13 P w (xdV x mv av) [x]:=
 Cells.one xbR rfl ⟨rfl,rfl,rfl,rfl,rfl,rfl,rfl,rfl,rfl,rfl,rfl,hN,mv,av,rfl,hM,rfl,hA⟩
theorem xi4 {P:Nat->Prop}{w:World}{g:Nat}{code:List QI}{t:TypeId}{cur:Array Value}(hg:w.heap[g]?=some (.cells cur t (0,0)))(hc:cur.toList=xbe code)(hn:∀ x∈code,x.name.size<=140737488351232)(hl:code.length<=100)(hP:P g):xaG P w (.slice (some ⟨g,0,none⟩) code.length code.length) code:=
 Cells.row (cs:=xbe code) (xf5 hn) xaU hP hg (by rw[hc];exact List.take_of_length_le (by rw[xdq];omega)) (qzC _) (by unfold maxLen;omega) (by omega)
theorem xgc {P:Nat->Prop}{w:World}{g:Nat}{v:QV}{t:TypeId}(hg:w.heap[g]?=some (.cells #[.int .i64 v.k,.int .i64 v.n] t (0,0)))(hP:P g):xaV P w (.slice (some ⟨g,0,none⟩) 1 1) [v]:=
 Cells.row (cs:=[.int .i64 v.k,.int .i64 v.n]) (Cells.one xa7 rfl ⟨rfl,rfl⟩) xa7 hP hg rfl (qzC _) (by unfold maxLen;omega) (by simp)
theorem xl5 {x:StE}(h:x.name.size<=100/\x.meth.name.size<=100/\x.cname.size<=100):NamesOk x:=⟨by omega,by omega,by omega⟩
theorem xm5:∀ x∈xik,NamesOk x:=by
 intro x hx;simp only[xik,List.mem_cons,List.not_mem_nil,or_false] at hx
 rcases hx with rfl | rfl | rfl | rfl | rfl<;>exact xl5 (by decide)
theorem xqA (w:World):Calls Tryz.prog 22 #[] w fun e w'=>∃ g,e=.returned (.slice (some ⟨g,0,none⟩) 5 5)/\xg2 (fun b=>w.heap.size<=b) w' (.slice (some ⟨g,0,none⟩) 5 5) xik/\Below w.heap.size w w':=by
 have hb:=Below.refl w.heap.size w;go_enter Tryz.func22,Tryz.ntmps22;go_wp2_with fail;refine (xca _ _ _).mono ?_;rintro e U ⟨rfl,hk⟩;replace hb:=xaf hb hk;clear hk;go_wp2_with fail;refine (xca _ _ _).mono ?_;rintro e U ⟨rfl,hk⟩;replace hb:=xaf hb hk;clear hk;go_wp2_with fail;refine (xeK _ _ _ _ _ _ _ _ ([in_ 4 0,in_ 17 0])).mono ?_;rintro e V ⟨rfl,hk⟩;have hG1:=xaa (heap_alloc_new U _) hk;have hg1:=hb.size;replace hb:=xbo hb hk;clear hk;generalize U.heap.size=g1 at *;generalize V=U at *;go_wp2_with fail;refine (xca _ _ _).mono ?_;rintro e U ⟨rfl,hk⟩;replace hb:=xaf hb hk;replace hG1:=xaa hG1 hk
 clear hk;go_wp2_with fail;refine (xca _ _ _).mono ?_;rintro e U ⟨rfl,hk⟩;replace hb:=xaf hb hk;replace hG1:=xaa hG1 hk;clear hk;go_wp2_with fail;refine (xca _ _ _).mono ?_;rintro e U ⟨rfl,hk⟩;replace hb:=xaf hb hk;replace hG1:=xaa hG1 hk;clear hk;go_wp2_with fail;refine (xca _ _ _).mono ?_;rintro e U ⟨rfl,hk⟩;replace hb:=xaf hb hk;replace hG1:=xaa hG1 hk;clear hk;go_wp2_with fail;refine (xeK _ _ _ _ _ _ _ _ ([in_ 2 0,in_ 12 0,in_ 1 0,in_ 17 0])).mono ?_;rintro e V ⟨rfl,hk⟩;have hG2:=xaa (heap_alloc_new U _) hk;have hg2:=hb.size;replace hG1:=xaa (xaa hG1 (xai _ _)) hk;replace hb:=xbo hb hk;clear hk
 generalize U.heap.size=g2 at *;generalize V=U at *;go_wp2_with fail;refine (xca _ _ _).mono ?_;rintro e U ⟨rfl,hk⟩;replace hb:=xaf hb hk;replace hG1:=xaa hG1 hk;replace hG2:=xaa hG2 hk;clear hk;go_wp2_with fail;refine (xca _ _ _).mono ?_;rintro e U ⟨rfl,hk⟩;replace hb:=xaf hb hk;replace hG1:=xaa hG1 hk;replace hG2:=xaa hG2 hk;clear hk;go_wp2_with fail;refine (xca _ _ _).mono ?_;rintro e U ⟨rfl,hk⟩;replace hb:=xaf hb hk;replace hG1:=xaa hG1 hk;replace hG2:=xaa hG2 hk;clear hk;go_wp2_with fail;refine (xca _ _ _).mono ?_;rintro e U ⟨rfl,hk⟩;replace hb:=xaf hb hk;replace hG1:=xaa hG1 hk;replace hG2:=xaa hG2 hk
 clear hk;go_wp2_with fail;refine (xca _ _ _).mono ?_;rintro e U ⟨rfl,hk⟩;replace hb:=xaf hb hk;replace hG1:=xaa hG1 hk;replace hG2:=xaa hG2 hk;clear hk;go_wp2_with fail;refine (xca _ _ _).mono ?_;rintro e U ⟨rfl,hk⟩;replace hb:=xaf hb hk;replace hG1:=xaa hG1 hk;replace hG2:=xaa hG2 hk;clear hk;go_wp2_with fail;refine (xe4 _ _ _).mono ?_;rintro e U ⟨rfl,hk⟩;replace hb:=xaf hb hk;replace hG1:=xaa hG1 hk;replace hG2:=xaa hG2 hk;clear hk;go_wp2_with fail;refine (xca _ _ _).mono ?_;rintro e U ⟨rfl,hk⟩;replace hb:=xaf hb hk;replace hG1:=xaa hG1 hk;replace hG2:=xaa hG2 hk;clear hk;go_wp2_with fail;refine (xca _ _ _).mono ?_
 rintro e U ⟨rfl,hk⟩;replace hb:=xaf hb hk;replace hG1:=xaa hG1 hk;replace hG2:=xaa hG2 hk;clear hk;go_wp2_with fail;refine (xca _ _ _).mono ?_;rintro e U ⟨rfl,hk⟩;replace hb:=xaf hb hk;replace hG1:=xaa hG1 hk;replace hG2:=xaa hG2 hk;clear hk;go_wp2_with fail;refine (xe4 _ _ _).mono ?_;rintro e U ⟨rfl,hk⟩;replace hb:=xaf hb hk;replace hG1:=xaa hG1 hk;replace hG2:=xaa hG2 hk;clear hk;go_wp2_with fail;refine (xe4 _ _ _).mono ?_;rintro e U ⟨rfl,hk⟩;replace hb:=xaf hb hk;replace hG1:=xaa hG1 hk;replace hG2:=xaa hG2 hk;clear hk;go_wp2_with fail;refine (xca _ _ _).mono ?_;rintro e U ⟨rfl,hk⟩;replace hb:=xaf hb hk
 replace hG1:=xaa hG1 hk;replace hG2:=xaa hG2 hk;clear hk;go_wp2_with fail;refine (xca _ _ _).mono ?_;rintro e U ⟨rfl,hk⟩;replace hb:=xaf hb hk;replace hG1:=xaa hG1 hk;replace hG2:=xaa hG2 hk;clear hk;go_wp2_with fail;refine (xca _ _ _).mono ?_;rintro e U ⟨rfl,hk⟩;replace hb:=xaf hb hk;replace hG1:=xaa hG1 hk;replace hG2:=xaa hG2 hk;clear hk;go_wp2_with fail;refine (xe4 _ _ _).mono ?_;rintro e U ⟨rfl,hk⟩;replace hb:=xaf hb hk;replace hG1:=xaa hG1 hk;replace hG2:=xaa hG2 hk;clear hk;go_wp2_with fail;refine (xca _ _ _).mono ?_;rintro e U ⟨rfl,hk⟩;replace hb:=xaf hb hk;replace hG1:=xaa hG1 hk;replace hG2:=xaa hG2 hk
 clear hk;go_wp2_with fail;refine (xca _ _ _).mono ?_;rintro e U ⟨rfl,hk⟩;replace hb:=xaf hb hk;replace hG1:=xaa hG1 hk;replace hG2:=xaa hG2 hk;clear hk;go_wp2_with fail;refine (xca _ _ _).mono ?_;rintro e U ⟨rfl,hk⟩;replace hb:=xaf hb hk;replace hG1:=xaa hG1 hk;replace hG2:=xaa hG2 hk;clear hk;go_wp2_with fail;refine (xca _ _ _).mono ?_;rintro e U ⟨rfl,hk⟩;replace hb:=xaf hb hk;replace hG1:=xaa hG1 hk;replace hG2:=xaa hG2 hk;clear hk;go_wp2_with fail;refine (xeK _ _ _ _ _ _ _ _ (xdJ xrq xo5 xrc)).mono ?_;rintro e V ⟨rfl,hk⟩;have hG3:=xaa (heap_alloc_new U _) hk;have hg3:=hb.size;replace hG1:=xaa (xaa hG1 (xai _ _)) hk
 replace hG2:=xaa (xaa hG2 (xai _ _)) hk;replace hb:=xbo hb hk;clear hk;generalize U.heap.size=g3 at *;generalize V=U at *;go_wp2;refine bodyPost_ret (v:=.slice (some ⟨U.heap.size,0,none⟩) 5 5) ?_ rfl ⟨U.heap.size,rfl,?_,xaf hb (xai _ _)⟩
 ·simp[results,Tryz.results22,go_sem]
 ·have c1:=fun o=>xi4 (P:=fun b=>w.heap.size<=b) (xaa hG1 (xai U o)) (code:=[in_ 4 0,in_ 17 0]) rfl (by decide) (by decide) hg1
  have c2:=fun o=>xi4 (P:=fun b=>w.heap.size<=b) (xaa hG2 (xai U o)) (code:=[in_ 2 0,in_ 12 0,in_ 1 0,in_ 17 0]) rfl (by decide) (by decide) hg2
  have c3:=fun o=>xi4 (P:=fun b=>w.heap.size<=b) (xaa hG3 (xai U o)) (code:=xdJ xrq xo5 xrc) rfl (by decide) (by decide) hg3
  have hN:∀ x∈xik,NamesOk x:=xm5
  exact Cells.row (((((xcS (hN _ (by simp[xik])) xcB xcB).append xbR (xcS (hN _ (by simp[xik])) (c1 _) xcB)).append xbR (xcS (hN _ (by simp[xik])) (c2 _) xcB)).append xbR (xcS (hN _ (by simp[xik])) (c3 _) xcB)).append xbR (xcS (hN _ (by simp[xik])) xcB xcB)) xbR hb.size (heap_alloc_new U _) rfl (qzC _) (by unfold maxLen;decide) (by decide)
def xnr:List StE:=[xdj 4 ⟨3,1⟩ (nm [43]) [⟨3,1⟩]]
theorem xi3:xaW xcU xnr=[⟨0,1,⟨3,2⟩⟩]:=by kernel_rfl
theorem xlM {P:Nat->Prop}{w:World}{g n c:Nat}{rs:List ReE}(h:xhg P w (.slice (some ⟨g,0,none⟩) n c) rs){j:Nat}{r:ReE}(hj:rs[j]?=some r):w.cell? ⟨g,j*4,none⟩=some (.int .i64 r.err)/\w.cell? ⟨g,j*4+1,none⟩=some (.int .i64 r.n)/\w.cell? ⟨g,j*4+2,none⟩=some (.int .i64 r.v.k)/\w.cell? ⟨g,j*4+3,none⟩=some (.int .i64 r.v.n):=by
 obtain⟨ad,cap,e,-,-,-,hr⟩:=h;simp only[Value.slice.injEq] at e;obtain⟨rfl,-,-⟩:=e;obtain⟨b,o,e,-,h0,h1,h2,h3⟩:=hr j r hj;simp only[Option.some.injEq,Addr.mk.injEq] at e;obtain⟨rfl,rfl,-⟩:=e;simp only[Nat.zero_add,Nat.add_zero] at h0 h1 h2 h3
 exact⟨h0,h1,h2,h3⟩
theorem xlI {P:Nat->Prop}(l:List StE)(hk:∀ x∈l,1<=x.kind/\x.kind<=6)(n:Nat)(hn:l.length=n)(h60:n<=60)(v:Value)(w:World)(hl:xg2 P w v l)(rs:List ReE)(hrs:xaW xcU l=rs) :
  Calls Tryz.prog 11 #[v] w fun e w'=>∃ (b1 b2 b3 b4:Option Addr) (n1 j1 n2 j2 n3 j3 n4 j4:Nat) (ep:Int) (g:Nat),e=.returned (.tuple #[SeV (.slice b1 n1 j1) (.slice b2 n2 j2) ep (.slice b3 n3 j3) (.slice b4 n4 j4) (.slice none 0 0),.slice (some ⟨g,0,none⟩) n n,.int .i64 0])/\xhg (fun b=>w.heap.size<=b) w' (.slice (some ⟨g,0,none⟩) n n) rs/\Below w.heap.size w w':=by
 subst hn hrs;refine (xp6 l hk h60 v w hl).mono ?_;rintro e W ⟨cv,hv,lv,tv,g,rfl,hSe,hRe,hk⟩;obtain⟨b1,j1,rfl,-⟩:=id hSe.c;obtain⟨b2,j2,rfl,-⟩:=id hSe.h;obtain⟨b3,j3,rfl,-⟩:=id hSe.l;obtain⟨b4,j4,rfl,-⟩:=id hSe.t
 exact⟨b1,b2,b3,b4,_,j1,_,j2,_,j3,_,j4,_,g,rfl,hRe,hk⟩
theorem xoa (w:World):Calls Tryz.prog 21 #[] w fun e w'=>e=.returned (.bool true)/\Below w.heap.size w w':=by
 have hb:=Below.refl w.heap.size w;go_enter Tryz.func21,Tryz.ntmps21;go_wp2_with fail;refine (xeA 1 _).mono ?_;rintro e U ⟨rfl,hk⟩;replace hb:=xaf hb hk;clear hk;go_wp2_with fail;refine (xeA 1 _).mono ?_;rintro e U ⟨rfl,hk⟩;replace hb:=xaf hb hk;clear hk;go_wp2_with fail;refine (xgl 4 ⟨3,1⟩ _ _ _ _ _ [⟨3,1⟩]).mono ?_;rintro e V ⟨rfl,hk⟩;have hG:=xaa (heap_alloc_new U _) hk;have hg:=hb.size;replace hb:=xbo hb hk;clear hk;generalize U.heap.size=g1 at *;have hS:xg2 (fun b=>w.heap.size<=b) (V.alloc (.cells (xdV (xdj 4 ⟨3,1⟩ (nm [43]) [⟨3,1⟩]) (.slice none 0 0) (.slice (some ⟨g1,0,none⟩) 1 1)).toArray 56)) (.slice (some ⟨V.heap.size,0,none⟩) 1 1) xnr:=Cells.row (xcS (xl5 (by decide)) xcB (xgc (v:=⟨3,1⟩) (xaa hG (xai V _)) hg)) xbR hb.size (heap_alloc_new V _) rfl (qzC _) (by unfold maxLen;decide) (by decide)
 go_wp2_with fail;refine (xlI xnr (by decide) 1 rfl (by decide) _ _ hS _ xi3).mono ?_
 rintro e W ⟨b1,b2,b3,b4,n1,j1,n2,j2,n3,j3,n4,j4,ep,g,rfl,hRe,hk⟩;replace hb:=xbo hb hk;obtain⟨q0,q1,q2,q3⟩:=xlM hRe (j:=0) rfl;clear hRe hS hG hk;have hbA:=xai W (.cells #[.slice b1 n1 j1,.slice b2 n2 j2,.int .i64 ep,.slice b3 n3 j3,.slice b4 n4 j4,.slice none 0 0] 31);have hbW:=xaf hb hbA;have hSl:=fun (W':World) (hb:Below (W.alloc (.cells #[.slice b1 n1 j1,.slice b2 n2 j2,.int .i64 ep,.slice b3 n3 j3,.slice b4 n4 j4,.slice none 0 0] 31)).heap.size (W.alloc (.cells #[.slice b1 n1 j1,.slice b2 n2 j2,.int .i64 ep,.slice b3 n3 j3,.slice b4 n4 j4,.slice none 0 0] 31)) W')=>(⟨qzA (xaf hbA hb) q0,qzA (xaf hbA hb) q1,qzA (xaf hbA hb) q2,qzA (xaf hbA hb) q3⟩:W'.cell? ⟨g,0,none⟩=some (.int .i64 0)/\W'.cell? ⟨g,1,none⟩=some (.int .i64 1)/\W'.cell? ⟨g,2,none⟩=some (.int .i64 3)/\W'.cell? ⟨g,3,none⟩=some (.int .i64 2))
 clear q0 q1 q2 q3
 go_upto_region 2 with (fail)
 clear hbA hb;generalize W.alloc (.cells #[.slice b1 n1 j1,.slice b2 n2 j2,.int .i64 ep,.slice b3 n3 j3,.slice b4 n4 j4,.slice none 0 0] 31)=W at *;refine xat (S:=fun w'=>w'.cell? ⟨g,0,none⟩=some (.int .i64 0)/\w'.cell? ⟨g,1,none⟩=some (.int .i64 1)/\w'.cell? ⟨g,2,none⟩=some (.int .i64 3)/\w'.cell? ⟨g,3,none⟩=some (.int .i64 2)) [] (by kernel_rfl) ?_
 have hb:Below W.heap.size W W.drew:=(Below.refl _ W).drew;generalize W.drew=U at *
 repeat' first
  | (
    refine tk 0 (⟨some 14,.move (.tmp 3),33,_,_,none⟩) (.int .i64 0) rfl (hSl _ hb) (fun _ _ _ h=>h) rfl ?_ ?_ ?_
    ·decide +kernel
    ·intro w hSw;obtain⟨q0,q1,q2,q3⟩:=hSw;go_simp
    try simp only[Act.put,qzF,qzG,qzH])
  | (
    refine tk 1 (⟨some 15,.binOp .eql 33 (.tmp 14) (.const (.int .i64 0)) 33,4,_,_,none⟩) (.bool true) rfl (hSl _ hb) (fun _ _ _ h=>h) rfl ?_ ?_ ?_
    ·decide +kernel
    ·intro w hSw;obtain⟨q0,q1,q2,q3⟩:=hSw;go_simp
    try simp only[Act.put,qzF,qzG,qzH])
  | (
    refine tk 2 (⟨some 16,.move (.tmp 15),4,_,_,none⟩) (.bool true) rfl (hSl _ hb) (fun _ _ _ h=>h) rfl ?_ ?_ ?_
    ·decide +kernel
    ·intro w hSw;obtain⟨q0,q1,q2,q3⟩:=hSw;go_simp
    try simp only[Act.put,qzF,qzG,qzH])
  | (
    refine tk 3 (⟨some 17,.move (.tmp 2),32,_,_,some (2,true)⟩) (.slice (some ⟨g,0,none⟩) 1 1) rfl (hSl _ hb) (fun _ _ _ h=>h) rfl ?_ ?_ ?_
    ·decide +kernel
    ·intro w hSw;obtain⟨q0,q1,q2,q3⟩:=hSw;go_simp
    try simp only[Act.put,qzF,qzG,qzH])
  | (
    refine tk 4 (⟨some 18,.call ⟨.builtin .len,#[.tmp 17],#[32]⟩,3,_,_,some (2,true)⟩) (.int .i64 1) rfl (hSl _ hb) (fun _ _ _ h=>h) rfl ?_ ?_ ?_
    ·decide +kernel
    ·intro w hSw;obtain⟨q0,q1,q2,q3⟩:=hSw;go_simp
    try simp only[Act.put,qzF,qzG,qzH])
  | (
    refine tk 5 (⟨some 19,.binOp .eql 3 (.tmp 18) (.const (.int .i64 1)) 3,4,_,_,some (2,true)⟩) (.bool true) rfl (hSl _ hb) (fun _ _ _ h=>h) rfl ?_ ?_ ?_
    ·decide +kernel
    ·intro w hSw;obtain⟨q0,q1,q2,q3⟩:=hSw;go_simp
    try simp only[Act.put,qzF,qzG,qzH])
  | (
    refine tk 6 (⟨some 20,.pick (.tmp 16) (.tmp 19) (.const (.bool false)),4,_,_,none⟩) (.bool true) rfl (hSl _ hb) (fun _ _ _ h=>h) rfl ?_ ?_ ?_
    ·decide +kernel
    ·intro w hSw;obtain⟨q0,q1,q2,q3⟩:=hSw;go_simp
    try simp only[Act.put,qzF,qzG,qzH])
  | (
    refine tk 7 (⟨some 21,.move (.tmp 20),4,_,_,none⟩) (.bool true) rfl (hSl _ hb) (fun _ _ _ h=>h) rfl ?_ ?_ ?_
    ·decide +kernel
    ·intro w hSw;obtain⟨q0,q1,q2,q3⟩:=hSw;go_simp
    try simp only[Act.put,qzF,qzG,qzH])
  | (
    refine tk 8 (⟨some 22,.move (.tmp 2),32,_,_,some (7,true)⟩) (.slice (some ⟨g,0,none⟩) 1 1) rfl (hSl _ hb) (fun _ _ _ h=>h) rfl ?_ ?_ ?_
    ·decide +kernel
    ·intro w hSw;obtain⟨q0,q1,q2,q3⟩:=hSw;go_simp
    try simp only[Act.put,qzF,qzG,qzH])
  | (
    refine tk 9 (⟨some 23,.indexAddr 32 (.tmp 22) (.const (.int .i64 0)),0,_,_,some (7,true)⟩) (.pointer (some ⟨g,0,none⟩)) rfl (hSl _ hb) (fun _ _ _ h=>h) rfl ?_ ?_ ?_
    ·decide +kernel
    ·intro w hSw;obtain⟨q0,q1,q2,q3⟩:=hSw;go_simp
    try simp only[Act.put,qzF,qzG,qzH])
  | (
    refine tk 10 (⟨some 24,.fieldAddr 43 (.tmp 23) 2,0,_,_,some (7,true)⟩) (.pointer (some ⟨g,2,none⟩)) rfl (hSl _ hb) (fun _ _ _ h=>h) rfl ?_ ?_ ?_
    ·decide +kernel
    ·intro w hSw;obtain⟨q0,q1,q2,q3⟩:=hSw;go_simp
    try simp only[Act.put,qzF,qzG,qzH])
  | (
    refine tk 11 (⟨some 25,.load 41 (.tmp 24),41,_,_,some (7,true)⟩) (VV ⟨3,2⟩) rfl (hSl _ hb) (fun _ _ _ h=>h) rfl ?_ ?_ ?_
    ·decide +kernel
    ·intro w hSw;obtain⟨q0,q1,q2,q3⟩:=hSw;go_simp
    try simp only[Act.put,qzF,qzG,qzH])
  | (
    refine tk 13 (⟨some 27,.binOp .eql 41 (.tmp 25) (.tmp 26) 41,4,_,_,some (7,true)⟩) (.bool true) rfl (hSl _ hb) (fun _ _ _ h=>h) rfl ?_ ?_ ?_
    ·decide +kernel
    ·intro w hSw;obtain⟨q0,q1,q2,q3⟩:=hSw;go_simp
    try simp only[Act.put,qzF,qzG,qzH])
  | (
    refine tk 14 (⟨some 28,.pick (.tmp 21) (.tmp 27) (.const (.bool false)),4,_,_,none⟩) (.bool true) rfl (hSl _ hb) (fun _ _ _ h=>h) rfl ?_ ?_ ?_
    ·decide +kernel
    ·intro w hSw;obtain⟨q0,q1,q2,q3⟩:=hSw;go_simp
    try simp only[Act.put,qzF,qzG,qzH])
  | (
    refine tk 15 (⟨some 0,.assign (.tmp 28),4,_,_,none⟩) (.bool true) rfl (hSl _ hb) (fun _ _ _ h=>h) rfl ?_ ?_ ?_
    ·decide +kernel
    ·intro w hSw;obtain⟨q0,q1,q2,q3⟩:=hSw;go_simp
    try simp only[Act.put,qzF,qzG,qzH])
  | (
    refine rdy [12] rfl ?_ ⟨?_,trivial⟩
    ·decide +kernel)
  | (
    refine xa0 (o:=⟨some 26,.call ⟨.value (.func 25),#[.const (.int .i64 2)],#[3]⟩,41,_,_,some (7,true)⟩) rfl (fun K' hK=>?_)
    have hcall:=xeA 2 U;refine xft rfl 25 (.func 25) #[.const (.int .i64 2)] _ rfl #[] rfl #[.int .i64 2] (by simp[Act.eval,Act.put]) (xda Tryz.func25 (by kernel_rfl) (by kernel_rfl) _ _) ?_
    refine (show Calls Tryz.prog 25 #[.int .i64 2] U _ from hcall.mono ?_)
    rintro e U ⟨rfl,hcV⟩;refine⟨_,rfl,?_⟩;replace hb:=xaf hb hcV;refine hK _ _ (fun _=>?_) ?_
    ·exact hSl _ hb
    clear hK K' hcall hcV
    try simp only[Act.put,qzF,qzG,qzH])
  | (
    refine xaE ?_ ?_ _
    ·decide +kernel
    try simp only[Act.put,qzF,qzG,qzH]
    go_wp2;refine bodyPost_ret (v:=.bool true) ?_ rfl ⟨rfl,xaf hbW hb⟩
    simp[results,Tryz.results21,go_sem])
end Go.Proofs.YtbafokihegegiaaGreatDoor
