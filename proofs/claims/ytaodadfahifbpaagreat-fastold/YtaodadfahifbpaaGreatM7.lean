/- A part. -/
import Derived.Test.YtaodadfahifbpaaGreatM6
import Derived.Deep.RegionHeld
namespace Go.Proofs.YtaodadfahifbpaaGreat
open Go.ChangeShapes Go.WideShapes Go.ChangeAt Go.RowKit
set_option linter.unusedSimpArgs false
set_option linter.unusedVariables false
set_option maxHeartbeats 8000000
theorem xgJ {xs:List QC}{name:ByteArray}:∀ (l:List Int),0<=(xcq xs name l).2->(xcq xs name l).2=xcd (xbx xs (xcq xs name l).1) name
 | [],h=>by simp[xcq] at h
 | k :: r,h=>by
  unfold xcq at h ⊢
  by_cases hk:0<=xcd (xbx xs k) name
  ·rw[if_pos hk]
  ·rw[if_neg hk] at h ⊢
   exact xgJ r h
theorem xhB {xs:List QC}{k:Int}{name:ByteArray}(h:0<=xcd (xbx xs k) name):∃ (q:Nat) (x:QC),k=(q:Int)/\xs[q]?=some x/\xbx xs k=x.mz:=by
 unfold xbx at h ⊢
 cases hx:xbo xs k with
 | none=>rw[hx] at h;simp[xcd,xcv] at h
 | some x=>
  obtain⟨q,rfl,hq⟩:=xa4 hx
  exact⟨q,x,rfl,hq,rfl⟩
theorem xgg {xs:List QC}{name:ByteArray}:∀ {l:List Int},(∀ k∈l,0<=k)->((xcq xs name l).1<0/\(xcq xs name l).2<0)\/(0<=(xcq xs name l).1/\0<=(xcq xs name l).2)
 | [],_=>Or.inl (by simp[xcq])
 | k :: r,h=>by
  unfold xcq
  split
  ·rename_i hk
   exact Or.inr ⟨h k (by simp),hk⟩
  ·exact xgg fun q hq=>h q (by simp[hq])
theorem xjJ (xs:List QC)(c:Int)(name:ByteArray):((xaF xs c name).1<0/\(xaF xs c name).2<0)\/(0<=(xaF xs c name).1/\0<=(xaF xs c name).2):=by
 rw[xgA];refine xgg fun k hk=>?_
 obtain⟨i,hi,rfl⟩:=List.mem_iff_getElem.1 hk;obtain⟨q,x,e,-⟩:=xeR _ _ i _ (by rw[List.getElem?_eq_getElem hi])
 rw[e];omega
theorem xjT {xs:List QC}{k:Int}{name:ByteArray}(h:0<=(xaF xs k name).2):∃ (q:Nat) (x:QC) (t:Nat) (y:QM),xaF xs k name=((q:Int),(t:Int))/\xs[q]?=some x/\x.mz[t]?=some y:=by
 rw[xgA] at h ⊢;generalize xc9 xs (xs.length+1) k=l at *;have h1:=xgJ l h;have h2:0<=xcd (xbx xs (xcq xs name l).1) name:=by omega
 obtain⟨q,x,hq,hx,hm⟩:=xhB h2;rw[hm] at h1 h2
 rcases xiD (fun m:QM=>eqN m.name name) x.mz with h3 | ⟨t,y,ht,hy,hp,-⟩
 ·have:xcd x.mz name=-1:=h3
  omega
 ·have ht':xcd x.mz name=(t:Int):=ht;refine⟨q,x,t,y,?_,hx,hy⟩;rw[ht'] at h1
  exact Prod.ext hq h1
theorem xem (xs:List QC)(k:Int)(name:ByteArray):((xaF xs k name).1<0/\(xaF xs k name).2<0)\/∃ (q:Nat) (x:QC) (t:Nat) (y:QM),xaF xs k name=((q:Int),(t:Int))/\xs[q]?=some x/\x.mz[t]?=some y:=by
 rcases xjJ xs k name with h | h
 ·exact Or.inl h
 ·exact Or.inr (xjT h.2)
def xca (xs:List QC)(c:Int)(name:ByteArray)(args:Int):Bool:=
 if (xaF xs c name).2<0 then false else
 match (xs[(xaF xs c name).1.toNat]?).bind fun x=>x.mz[(xaF xs c name).2.toNat]? with
 | some m=>m.args == args && xdl m
 | none=>false
theorem xkp {xs:List QC}{c:Int}{name:ByteArray}(args:Int)(h:(xaF xs c name).2<0):xca xs c name args=false:=by simp[xca,h]
theorem xjO {xs:List QC}{c:Int}{name:ByteArray}(args:Int){q t:Nat}{x:QC}{m:QM}(h:xaF xs c name=((q:Int),(t:Int)))(hx:xs[q]?=some x)(hm:x.mz[t]?=some m):xca xs c name args=(m.args == args && xdl m):=by
 unfold xca;rw[h]
 simp[hx,hm]
theorem xd8 {P:Nat->Prop}(X:QW)(c:Int)(name:ByteArray)(args:Int)(cv hv:Value)(w:World)(hC:xaf P w cv X.cz)(hH:xaA P w hv X.heap) :
  Calls Tryz.prog 69 #[WV cv hv X.ez,.int .i64 c,.string name,.int .i64 args] w fun e w'=>e=.returned (.bool (xca X.cz c name args))/\Below w.heap.size w w':=by
 obtain⟨ad,cap,rfl,hl,hcap,hby,hrow⟩:=id hC;obtain⟨ah,ch,rfl,-,-,-,-⟩:=id hH;have hb0:=xaj w (.cells #[.slice ad X.cz.length cap,.slice ah X.heap.length ch,.int .i64 X.ez] 25);have k0:(w.alloc (.cells #[.slice ad X.cz.length cap,.slice ah X.heap.length ch,.int .i64 X.ez] 25)).cell? ⟨w.heap.size,0,none⟩=some (.slice ad X.cz.length cap):=by rw[xaa _ _ _ _ rfl];rfl
 go_enter Tryz.func69,Tryz.ntmps69;go_wp2_with fail;refine (xeZ X c name _ _ _ (hC.later xau (xaj _ _)) (hH.later xaz (xaj _ _))).mono ?_;rintro e w1 ⟨rfl,hb⟩;replace k0:=qzA hb k0;have hB:=xae hb0 hb;clear hb0 hb
 rcases xem X.cz c name with ⟨h1,h2⟩ | ⟨q,x,t,m,he,hx,hm⟩
 ·have HS:Hid (xca X.cz c name args=false):=xkp args h2;have hd:decide ((xaF X.cz c name).1<0)=true:=by simpa using h1
  generalize xaF X.cz c name=f at *;obtain⟨f1,f2⟩:=f;go_wp2
  go_ret
  exact⟨xbv HS.out.symm,hB⟩
 ·have HS:Hid (xca X.cz c name args=(m.args == args && xdl m)):=xjO args he hx hm;rw[he];have hq:=xag hx;have ht:=xag hm;obtain⟨b,o,rfl,-,-,-,-,-,mv,hv3,hms⟩:=hrow q x hx;obtain⟨am,cm,rfl,hlm,hcm,-,hrm⟩:=hms;obtain⟨b2,o2,rfl,-,y0,y1,y2,y3,-,sv,y4,hco⟩:=hrm t m hm;obtain⟨ac,cc,rfl,-,-,-,-⟩:=id hco;simp only[Nat.add_zero] at y0;have u3:=qzA hB hv3;have z0:=qzA hB y0;have z1:=qzA hB y1;have z2:=qzA hB y2;have z3:=qzA hB y3;have z4:=qzA hB y4;have hcl:=hco.later xaV hB;unfold maxLen at hcap hcm;have hq1:(q:Int)<(X.cz.length:Int):=by omega
  have hq0:(0:Int)<=(q:Int):=by omega
  have ht1:(t:Int)<(x.mz.length:Int):=by omega
  have ht0:(0:Int)<=(t:Int):=by omega
  have hqn:decide ((q:Int)<0)=false:=by simp
  clear hrow hrm hx hm he hv3 y0 y1 y2 y3 y4 hco hC hH
  by_cases ha:m.args=args
  ·have hd:(m.args == args)=true:=by simpa using ha
   have HL:Hid (xca X.cz c name args=xdl m):=by show _=_;rw[HS.out,hd];simp
   subst ha;clear hd HS;go_wp2_with fail;refine (xi5 m _ _ (hcl.later xaV (xaj _ _))).mono ?_;rintro e w2 ⟨rfl,hb2⟩;go_wp2
   go_ret
   exact⟨xbv HL.out.symm,xae hB (xdA (Below.refl _ _) hb2)⟩
  ·have hd:(m.args == args)=false:=by simpa using ha
   have HL:Hid (xca X.cz c name args=false):=by show _=_;rw[HS.out,hd];simp
   clear HS ha;go_wp2
   go_ret
   exact⟨xbv HL.out.symm,xae hB (xaj _ _)⟩
theorem xkY (ls:List QL):0<=(xc8 ls).found:=by
 have:∀ (l:List QL) (p:QL),0<=p.found->0<=(l.foldl xbw p).found:=by
  intro l
  induction l with
  | nil=>exact fun p h=>h
  | cons x r ih=>
   intro p h;refine ih _ ?_;unfold xbw
   split<;>omega
 exact this ls _ (by simp)
theorem xjY (ls:List QL):-9223372036854775808<=xdt ls/\xdt ls<9223372036854775808:=by
 rcases List.eq_nil_or_concat ls with rfl | ⟨r,x,rfl⟩
 ·simp[xdt]
 ·rw[List.concat_eq_append,xg7];unfold wrap64;omega
theorem xlt {a n:Int}(h2:¬ a<2)(hi:a<9223372036854775808):n<=wrap64 (a.tdiv 2) ↔ n+n<=a:=by
 rw[Int.tdiv_eq_ediv_of_nonneg (by omega)]
 unfold wrap64
 omega
def xfT (X:QW)(t:List QT)(s:QS)(name:ByteArray)(args:Int):Int:=
 if xdt (xaH t s)<2\/(xc8 (xaH t s)).found+(xc8 (xaH t s)).found<=xdt (xaH t s)\/xca X.cz (xc8 (xaH t s)).cls name args=false then -1 else (xc8 (xaH t s)).cls
structure SiteB (w:World)(ad:Option Addr)(n cap:Nat)(ah:Option Addr)(nh ch:Nat)(ep:Int)(b:Nat)(s:QS)(w':World):Prop where
 k0:w'.cell? ⟨b,0,none⟩=some (.slice ad n cap)
 k1:w'.cell? ⟨b,1,none⟩=some (.slice ah nh ch)
 k2:w'.cell? ⟨b,2,none⟩=some (.int .i64 ep)
 s:SiteAt w' (b+1) s
 bel:Below w.heap.size w w'
theorem SiteB.later {w:World}{ad:Option Addr}{n cap:Nat}{ah:Option Addr}{nh ch:Nat}{ep:Int}{b:Nat}{s:QS}{w' w'':World}(h:SiteB w ad n cap ah nh ch ep b s w')(hb:Below w'.heap.size w' w''):SiteB w ad n cap ah nh ch ep b s w'':=
 ⟨qzA hb h.k0,qzA hb h.k1,qzA hb h.k2,h.s.later hb,xae h.bel hb⟩
theorem xk2 (w:World)(ad:Option Addr)(n cap:Nat)(ah:Option Addr)(nh ch:Nat)(ep:Int)(s:QS):SiteB w ad n cap ah nh ch ep w.heap.size s ((w.alloc (.cells #[.slice ad n cap,.slice ah nh ch,.int .i64 ep] 25)).alloc (.cells #[.int .i64 s.cls,.string s.name,.int .i64 s.at'] 63)):=by
 refine⟨?_,?_,?_,?_,xbA _ _ _⟩
 ·exact qzA (xaj _ _) (by rw[xaa _ _ _ _ rfl];rfl)
 ·exact qzA (xaj _ _) (by rw[xaa _ _ _ _ rfl];rfl)
 ·exact qzA (xaj _ _) (by rw[xaa _ _ _ _ rfl];rfl)
 ·have:=xfo (w.alloc (.cells #[.slice ad n cap,.slice ah nh ch,.int .i64 ep] 25)) s 63
  simpa using this
theorem xlj {P P2:Nat->Prop}(X:QW)(t:List QT)(s:QS)(name:ByteArray)(args:Int)(cv hv tv:Value)(w:World)(hC:xaf P w cv X.cz)(hH:xaA P w hv X.heap)(hT:xbq P2 w tv t) :
  Calls Tryz.prog 50 #[WV cv hv X.ez,tv,SV s,.string name,.int .i64 args] w fun e w'=>e=.returned (.int .i64 (xfT X t s name args))/\Below w.heap.size w w':=by
 obtain⟨ad,cap,rfl,-⟩:=id hC;obtain⟨ah,ch,rfl,-⟩:=id hH;have hB:=xk2 w ad X.cz.length cap ah X.heap.length ch X.ez s;go_enter Tryz.func50,Tryz.ntmps50
 go_upto_region 1 with (fail)
 generalize (w.alloc (.cells #[.slice ad X.cz.length cap,.slice ah X.heap.length ch,.int .i64 X.ez] 25)).alloc (.cells #[.int .i64 s.cls,.string s.name,.int .i64 s.at'] 63)=W0 at *;have hT0:=hT.later xeo hB.bel;have hC0:=hC.later xau hB.bel;have hH0:=hH.later xaz hB.bel;obtain⟨s0,s1,s2⟩:=hB.s;go_wp2_with fail;refine (xot t s _ _ hT0).mono ?_;rintro e w1 ⟨rfl,hb1⟩;replace hB:=hB.later hb1;replace hT0:=hT0.later xeo hb1;clear hb1 s0 s1 s2;obtain⟨s0,s1,s2⟩:=hB.s;go_wp2_with fail;refine (xm0 t s _ _ hT0).mono ?_;rintro e w2 ⟨rfl,hb2⟩;replace hB:=hB.later hb2;clear hb2 s0 s1 s2 hT0;have HE:Hid (xfT X t s name args=if xdt (xaH t s)<2\/(xc8 (xaH t s)).found+(xc8 (xaH t s)).found<=xdt (xaH t s)\/xca X.cz (xc8 (xaH t s)).cls name args=false then -1 else (xc8 (xaH t s)).cls):=rfl
 have hhi:=(xjY (xaH t s)).2;have hlow:=xkY (xaH t s);generalize xdt (xaH t s)=a at *;generalize xc8 (xaH t s)=p at *;obtain⟨pc,pn⟩:=p;simp only at *;have hC2:=hC.later xau hB.bel;have hH2:=hH.later xaz hB.bel;clear hT hC0 hH0;obtain⟨k0,k1,k2,-,hbel⟩:=hB
 by_cases h1:a<2
 ·have hd:decide (a<2)=true:=by simpa using h1
  have HR:Hid (xfT X t s name args=-1):=by show _=_;rw[HE.out,if_pos (Or.inl h1)]
  clear HE;go_wp2
  go_ret
  exact⟨xal HR.out.symm,hbel⟩
 ·have hd:decide (a<2)=false:=by simpa using h1
  by_cases h2:pn+pn<=a
  ·have hd2:decide (pn<=wrap64 (a.tdiv 2))=true:=by simpa using (xlt h1 hhi).2 h2
   have HR:Hid (xfT X t s name args=-1):=by show _=_;rw[HE.out,if_pos (Or.inr (Or.inl h2))]
   clear HE h1 h2;go_wp2
   go_ret
   exact⟨xal HR.out.symm,hbel⟩
  ·have hd2:decide (pn<=wrap64 (a.tdiv 2))=false:=by
    have:=fun h=>h2 ((xlt h1 hhi).1 h)
    simpa using this
   cases hlf:xca X.cz pc name args
   ·have HR:Hid (xfT X t s name args=-1):=by show _=_;rw[HE.out,if_pos (Or.inr (Or.inr hlf))]
    have HL:Hid (xca X.cz pc name args=false):=hlf;clear HE h1 h2 hlf;go_wp2_with fail;refine (xd8 X pc name args _ _ _ hC2 hH2).mono ?_;rintro e w3 ⟨rfl,hb3⟩;rw[HL.out];go_wp2
    go_ret
    exact⟨xal HR.out.symm,xae hbel hb3⟩
   ·have HR:Hid (xfT X t s name args=pc):=by show _=_;rw[HE.out,if_neg (by simp[h1,h2,hlf])]
    have HL:Hid (xca X.cz pc name args=true):=hlf;clear HE h1 h2 hlf;go_wp2_with fail;refine (xd8 X pc name args _ _ _ hC2 hH2).mono ?_;rintro e w3 ⟨rfl,hb3⟩;rw[HL.out];go_wp2
    go_ret
    exact⟨xal HR.out.symm,xae hbel hb3⟩
abbrev ins (op a b c:Int):QI:=⟨op,a,b,c,⟨#[]⟩⟩
def xa6 (self args temps first behind:Int)(x:QI):QI:=
 if x.op=1 then ins 3 self 0 0
 else if x.op=2 then ins 3 (args+x.a) 0 0
 else if x.op=3\/x.op=11 then ins x.op (temps+x.a) 0 0
 else if x.op=4 then ins 19 self x.a 0
 else if x.op=12 then ins 20 self x.a 0
 else if x.op=15\/x.op=16 then ins x.op (first+x.a) 0 0
 else if x.op=17 then ins 15 behind 0 0
 else x
def xdJ (args:Int):Nat->List QI
 | 0=>[]
 | n+1=>ins 11 (args+n) 0 0 :: xdJ args n
def xcY (temps:Int)(n:Nat):List QI:=(List.range n).flatMap fun k=>[ins 6 0 0 0,ins 11 (temps+(k:Nat)) 0 0]
theorem xeA (temps:Int)(n:Nat):xcY temps (n+1)=xcY temps n++[ins 6 0 0 0,ins 11 (temps+(n:Nat)) 0 0]:=by
 unfold xcY;rw[List.range_succ,List.flatMap_append];simp
theorem xfc (temps:Int):∀ n,(xcY temps n).length=2*n
 | 0=>rfl
 | n+1=>by rw[xeA,List.length_append,xfc temps n];simp;omega
theorem xgX (args:Int):∀ n,(xdJ args n).length=n
 | 0=>rfl
 | n+1=>by simp[xdJ,xgX args n]
def xkF (leaf:QM)(guard:QI)(self:Int):List QI:=[guard,ins 21 0 0 0]++xdJ (self+1) leaf.args.toNat++[ins 11 self 0 0]++xcY (self+1+leaf.args) leaf.temps.toNat
def xbN (leaf:QM)(n:Int):Int:=n+3+leaf.args+2*leaf.temps
def xdz (leaf:QM)(guard:QI)(self n:Int):List QI:=xkF leaf guard self++leaf.code.map (xa6 self (self+1) (self+1+leaf.args) (xbN leaf n) (xbN leaf n+leaf.code.length))
theorem xle (leaf:QM)(guard:QI)(self:Int):(xkF leaf guard self).length=3+leaf.args.toNat+2*leaf.temps.toNat:=by
 unfold xkF;simp[xgX,xfc];omega
theorem xdo (leaf:QM)(guard:QI)(self n:Int):(xdz leaf guard self n).length=3+leaf.args.toNat+2*leaf.temps.toNat+leaf.code.length:=by
 unfold xdz;rw[List.length_append,xle];simp
def xeH (xs:List QC)(k:Int)(name:ByteArray):Option QM:=if (xaF xs k name).2<0 then none else (xs[(xaF xs k name).1.toNat]?).bind fun x=>x.mz[(xaF xs k name).2.toNat]?
def xbg (xs:List QC)(sites:List Int)(at':Nat)(x:QI):Option QM:=
 if x.op=14/\0<=sites.getD at' (-1) then
  match xeH xs (sites.getD at' (-1)) x.name with
  | none=>none
  | some m=>if m.args=x.a/\xdl m=true then some m else none
 else none
def xft (n temps:Int)(leaf:QM)(left:Int):Bool:=decide (n+3+leaf.args+2*leaf.temps+leaf.code.length+left<=240/\temps+1+leaf.args+leaf.temps<=40)
def xeN (x:QI)(at':Int):QI:=if x.op=14 then { x with c:=at' } else x
def xl1 (xs:List QC)(sites:List Int)(len:Nat)(n temps:Int)(at':Nat)(x:QI):Option QM:=
 match xbg xs sites at' x with
 | none=>none
 | some leaf=>if xft n temps leaf ((len:Int)-at')=true then some leaf else none
structure Bd where
 code:List QI
 temps:Int
 begins:List Int
 pieces:Nat
def xeu (xs:List QC)(sites:List Int)(len:Nat)(s:Bd)(at':Nat)(x:QI):Bd:=
 match xl1 xs sites len s.code.length s.temps at' x with
 | none=>⟨s.code++[xeN x at'],s.temps,s.begins++[(s.code.length:Int)],s.pieces⟩
 | some leaf=>⟨s.code++xdz leaf (ins 18 (sites.getD at' (-1)) leaf.args at') s.temps s.code.length,s.temps+1+leaf.args+leaf.temps,s.begins++[(s.code.length:Int)],s.pieces+1⟩
def xaD (xs:List QC)(sites:List Int)(m:QM):Nat->Bd
 | 0=>⟨[],m.temps,[],0⟩
 | k+1=>match m.code[k]? with
  | none=>xaD xs sites m k
  | some x=>xeu xs sites m.code.length (xaD xs sites m k) k x
theorem xbU {xs:List QC}{sites:List Int}{m:QM}{k:Nat}{x:QI}(h:m.code[k]?=some x):xaD xs sites m (k+1)=xeu xs sites m.code.length (xaD xs sites m k) k x:=by
 rw[xaD,h]
theorem xfG (xs:List QC)(sites:List Int)(len:Nat)(s:Bd)(k:Nat)(x:QI):(xeu xs sites len s k x).begins=s.begins++[(s.code.length:Int)]:=by
 unfold xeu;split<;>rfl
theorem xb6 {xs:List QC}{sites:List Int}{m:QM}:∀ {k:Nat},k<=m.code.length->(xaD xs sites m k).begins.length=k
 | 0,_=>rfl
 | k+1,h=>by
  rw[xbU (List.getElem?_eq_getElem (by omega)),xfG,List.length_append,xb6 (by omega)];rfl
def xhI (begins:List Int)(x:QI):Option Int:=if (x.op=15\/x.op=16)/\0<=x.a then begins[x.a.toNat]? else none
def xeO (begins:List Int)(plain:List QI)(code:List QI):Nat->List QI
 | 0=>code
 | k+1=>match plain[k]?,begins[k]? with
  | some x,some b=>match xhI begins x with
   | some t=>(xeO begins plain code k).modify b.toNat fun y=>{ y with a:=t }
   | none=>xeO begins plain code k
  | _,_=>xeO begins plain code k
theorem xee (begins:List Int)(plain code:List QI):∀ k,(xeO begins plain code k).length=code.length
 | 0=>rfl
 | k+1=>by
  unfold xeO
  split
  ·split
   ·rw[List.length_modify,xee begins plain code k]
   ·exact xee begins plain code k
  ·exact xee begins plain code k
structure Fst where
 cls:Int
 name:ByteArray
 ez:Int
 temps:Int
 code:List QI
def xc7:Fst:=⟨0,⟨#[]⟩,0,0,[]⟩
def xlc (X:QW)(c:Int)(m:QM)(sites:List Int):Fst × Bool:=
 let s:=xaD X.cz sites m m.code.length
 if s.pieces=0 then (xc7,false) else (⟨c,m.name,X.ez,s.temps,xeO s.begins m.code s.code m.code.length⟩,true)
set_option maxRecDepth 8000
theorem xb7 {p:Prop}(h:p):Hid p:=h
def xcT:Int->List Int->Bool
 | _,[]=>true
 | m,n :: r=>if n<0\/m<n then false else xcT (m-n) r
theorem xmy {α:Type}{xs:List α}{j:Nat}{x:α}(h:xs[j]?=some x):xs.drop j=x :: xs.drop (j+1):=by
 obtain⟨hj,rfl⟩:=List.getElem?_eq_some_iff.1 h
 exact List.drop_eq_getElem_cons hj
theorem xi1 {P:Nat->Prop}(ps:List Int)(v:Value)(m:Int)(w:World)(hm:0<=m/\m<=1000)(h:xcL P w v ps):Calls Tryz.prog 65 #[.int .i64 m,v] w fun e w'=>e=.returned (.bool (xcT m ps))/\w'=w:=by
 obtain⟨ad,cap,rfl,hl,hcap,hby,hrow⟩:=h;go_enter Tryz.func65,Tryz.ntmps65;go_wp2
 go_loopg [0,9] ps.length (fun g mv c wr=>∃ (j:Nat) (mm:Int),j+g=ps.length/\c=.int .i64 j/\mv=.int .i64 mm/\(0<=mm/\mm<=1000)/\Hid (xcT m ps=xcT mm (ps.drop j))/\wr=w)
 case atStart=>exact⟨0,m,by omega,rfl,rfl,hm,rfl,rfl⟩
 case round=>
  obtain⟨j,mm,hj,rfl,rfl,⟨hm0,hm1⟩,HF,rfl⟩:=hrel
  by_cases hlt:j<ps.length
  ·have hx:ps[j]?=some ps[j]:=by simp[hlt]
   have HX:=xb7 hx;obtain⟨b,o,rfl,-,y0⟩:=hrow j ps[j] hx;generalize ps[j]=x at *;have hj1:(j:Int)<(ps.length:Int):=by omega
   have hj0:(0:Int)<=(j:Int):=by omega
   replace y0:wr.cell? ⟨b,o+j,none⟩=some (.int .i64 x):=by simpa [xnl] using y0
   clear hrow hx;have HS:Hid (xcT m ps=if x<0\/mm<x then false else xcT (mm-x) (ps.drop (j+1))):=by show _=_;rw[HF.out,xmy HX.out];rfl
   by_cases h0:x<0
   ·have hd:decide (x<0)=true:=by simpa using h0
    have HR:Hid (xcT m ps=false):=by show _=_;rw[HS.out,if_pos (Or.inl h0)]
    clear h0;go_wp2
    go_ret
    exact⟨xbv HR.out.symm,rfl⟩
   ·have hd:decide (x<0)=false:=by simpa using h0
    by_cases h1:mm<x
    ·have hd1:decide (mm<x)=true:=by simpa using h1
     have HR:Hid (xcT m ps=false):=by show _=_;rw[HS.out,if_pos (Or.inr h1)]
     clear h0 h1;go_wp2
     go_ret
     exact⟨xbv HR.out.symm,rfl⟩
    ·have hd1:decide (mm<x)=false:=by simpa using h1
     have HR:Hid (xcT m ps=xcT (mm-x) (ps.drop (j+1))):=by show _=_;rw[HS.out,if_neg (by omega)]
     have hw:IntKind.i64.wrap (mm-x)=mm-x:=xaq (by omega) (by omega)
     have HM:Hid (0<=mm-x/\mm-x<=1000):=by show _/\_;omega
     clear h0 h1;go_wp2
     go_roundg (gk-1)
     case measure=>omega
     case rel=>exact⟨j+1,mm-x,by omega,by go_num,rfl,HM.out,HR.out,rfl⟩
  ·obtain rfl:j=ps.length:=by omega
   have HR:Hid (xcT m ps=true):=by show _=_;rw[HF.out,List.drop_length];rfl
   go_wp2
   go_ret
   exact⟨xbv HR.out.symm,rfl⟩
theorem xfu (x:QI)(n:Int)(w:World):Calls Tryz.prog 43 #[IV x,.int .i64 n] w fun e w'=>e=.returned (IV (xeN x n))/\Below w.heap.size w w':=by
 have hb2:=xbA w (.cells #[.int .i64 x.op,.int .i64 x.a,.int .i64 x.b,.int .i64 x.c,.string x.name] 57) (.cells #[.int .i64 0,.int .i64 0,.int .i64 0,.int .i64 0,.string ⟨#[]⟩] 57)
 by_cases h:x.op=14
 ·have hd:(x.op == 14)=true:=by simpa using h
  have HS:Hid (xeN x n={ x with c:=n }):=by show _=_;unfold xeN;rw[if_pos h]
  clear h;go_enter Tryz.func43,Tryz.ntmps43;go_wp2;refine bodyPost_ret (v:=IV { x with c:=n }) ?_ rfl ⟨by rw[HS.out],?_⟩
  ·simp[results,Tryz.results43,go_sem]
  ·exact xbA _ _ _
 ·have hd:(x.op == 14)=false:=by simpa using h
  have HS:Hid (xeN x n=x):=by show _=_;unfold xeN;rw[if_neg h]
  clear h;go_enter Tryz.func43,Tryz.ntmps43;go_wp2;refine bodyPost_ret (v:=IV x) ?_ rfl ⟨by rw[HS.out],?_⟩
  ·simp[results,Tryz.results43,go_sem]
  ·exact xbA _ _ _
abbrev PlV (self args temps first behind:Int):Value:=.agg #[.int .i64 self,.int .i64 args,.int .i64 temps,.int .i64 first,.int .i64 behind]
abbrev FsV (f:Fst)(kv:Value):Value:=.agg #[.int .i64 f.cls,.string f.name,.int .i64 f.ez,.int .i64 f.temps,kv]
theorem xiK (self args temps first behind:Int)(x:QI)(w:World)(h1:0<=args/\args<=1000)(h2:0<=temps/\temps<=1000)(h3:0<=first/\first<=1000)(ha:(x.op=2\/x.op=3\/x.op=11\/x.op=15\/x.op=16)->0<=x.a/\x.a<=1000) :
  Calls Tryz.prog 66 #[PlV self args temps first behind,IV x] w fun e w'=>e=.returned (IV (xa6 self args temps first behind x))/\Below w.heap.size w w':=by
 obtain⟨y,HS⟩:∃ y,Hid (xa6 self args temps first behind x=y):=⟨_,rfl⟩
 have hb3:=fun (u:Array Value)=>xeQ w (.cells #[.int .i64 self,.int .i64 args,.int .i64 temps,.int .i64 first,.int .i64 behind] 115) (.cells #[.int .i64 x.op,.int .i64 x.a,.int .i64 x.b,.int .i64 x.c,.string x.name] 57) (.cells u 57)
 go_enter Tryz.func66,Tryz.ntmps66
 by_cases g1:x.op=1
 ·have hd:(x.op == 1)=true:=by simpa using g1
  have HR:Hid (xa6 self args temps first behind x=ins 3 self 0 0):=by show _=_;unfold xa6;rw[if_pos g1]
  clear g1 ha;go_wp2;refine bodyPost_ret (v:=IV (ins 3 self 0 0)) ?_ rfl ⟨by rw[HR.out],hb3 _⟩
  simp[results,Tryz.results66,go_sem]
 have d1:(x.op == 1)=false:=by simpa using g1
 by_cases g2:x.op=2
 ·have hd:(x.op == 2)=true:=by simpa using g2
  have HR:Hid (xa6 self args temps first behind x=ins 3 (args+x.a) 0 0):=by show _=_;unfold xa6;rw[if_neg g1,if_pos g2]
  have hw:IntKind.i64.wrap (args+x.a)=args+x.a:=by have:=ha (Or.inl g2);exact xaq (by omega) (by omega)
  clear g1 g2 ha;go_wp2;refine bodyPost_ret (v:=IV (ins 3 (args+x.a) 0 0)) ?_ rfl ⟨by rw[HR.out],hb3 _⟩
  simp[results,Tryz.results66,go_sem]
 have d2:(x.op == 2)=false:=by simpa using g2
 by_cases g3:x.op=3
 ·have hd:(x.op == 3)=true:=by simpa using g3
  have HR:Hid (xa6 self args temps first behind x=ins x.op (temps+x.a) 0 0):=by show _=_;unfold xa6;rw[if_neg g1,if_neg g2,if_pos (Or.inl g3)]
  have hw:IntKind.i64.wrap (temps+x.a)=temps+x.a:=by have:=ha (Or.inr (Or.inl g3));exact xaq (by omega) (by omega)
  clear g1 g2 g3 ha;go_wp2;refine bodyPost_ret (v:=IV (ins x.op (temps+x.a) 0 0)) ?_ rfl ⟨by rw[HR.out],hb3 _⟩
  simp[results,Tryz.results66,go_sem]
 have d3:(x.op == 3)=false:=by simpa using g3
 by_cases g11:x.op=11
 ·have hd:(x.op == 11)=true:=by simpa using g11
  have HR:Hid (xa6 self args temps first behind x=ins x.op (temps+x.a) 0 0):=by show _=_;unfold xa6;rw[if_neg g1,if_neg g2,if_pos (Or.inr g11)]
  have hw:IntKind.i64.wrap (temps+x.a)=temps+x.a:=by have:=ha (Or.inr (Or.inr (Or.inl g11)));exact xaq (by omega) (by omega)
  clear g1 g2 g3 g11 ha;go_wp2;refine bodyPost_ret (v:=IV (ins x.op (temps+x.a) 0 0)) ?_ rfl ⟨by rw[HR.out],hb3 _⟩
  simp[results,Tryz.results66,go_sem]
 have d11:(x.op == 11)=false:=by simpa using g11
 by_cases g4:x.op=4
 ·have hd:(x.op == 4)=true:=by simpa using g4
  have HR:Hid (xa6 self args temps first behind x=ins 19 self x.a 0):=by show _=_;unfold xa6;rw[if_neg g1,if_neg g2,if_neg (by omega),if_pos g4]
  clear g1 g2 g3 g11 g4 ha;go_wp2;refine bodyPost_ret (v:=IV (ins 19 self x.a 0)) ?_ rfl ⟨by rw[HR.out],hb3 _⟩
  simp[results,Tryz.results66,go_sem]
 have d4:(x.op == 4)=false:=by simpa using g4
 by_cases g12:x.op=12
 ·have hd:(x.op == 12)=true:=by simpa using g12
  have HR:Hid (xa6 self args temps first behind x=ins 20 self x.a 0):=by show _=_;unfold xa6;rw[if_neg g1,if_neg g2,if_neg (by omega),if_neg g4,if_pos g12]
  clear g1 g2 g3 g11 g4 g12 ha;go_wp2;refine bodyPost_ret (v:=IV (ins 20 self x.a 0)) ?_ rfl ⟨by rw[HR.out],hb3 _⟩
  simp[results,Tryz.results66,go_sem]
 have d12:(x.op == 12)=false:=by simpa using g12
 by_cases g15:x.op=15
 ·have hd:(x.op == 15)=true:=by simpa using g15
  have HR:Hid (xa6 self args temps first behind x=ins x.op (first+x.a) 0 0):=by show _=_;unfold xa6;rw[if_neg g1,if_neg g2,if_neg (by omega),if_neg g4,if_neg g12,if_pos (Or.inl g15)]
  have hw:IntKind.i64.wrap (first+x.a)=first+x.a:=by have:=ha (Or.inr (Or.inr (Or.inr (Or.inl g15))));exact xaq (by omega) (by omega)
  clear g1 g2 g3 g11 g4 g12 g15 ha;go_wp2;refine bodyPost_ret (v:=IV (ins x.op (first+x.a) 0 0)) ?_ rfl ⟨by rw[HR.out],hb3 _⟩
  simp[results,Tryz.results66,go_sem]
 have d15:(x.op == 15)=false:=by simpa using g15
 by_cases g16:x.op=16
 ·have hd:(x.op == 16)=true:=by simpa using g16
  have HR:Hid (xa6 self args temps first behind x=ins x.op (first+x.a) 0 0):=by show _=_;unfold xa6;rw[if_neg g1,if_neg g2,if_neg (by omega),if_neg g4,if_neg g12,if_pos (Or.inr g16)]
  have hw:IntKind.i64.wrap (first+x.a)=first+x.a:=by have:=ha (Or.inr (Or.inr (Or.inr (Or.inr g16))));exact xaq (by omega) (by omega)
  clear g1 g2 g3 g11 g4 g12 g15 g16 ha;go_wp2;refine bodyPost_ret (v:=IV (ins x.op (first+x.a) 0 0)) ?_ rfl ⟨by rw[HR.out],hb3 _⟩
  simp[results,Tryz.results66,go_sem]
 have d16:(x.op == 16)=false:=by simpa using g16
 by_cases g17:x.op=17
 ·have hd:(x.op == 17)=true:=by simpa using g17
  have HR:Hid (xa6 self args temps first behind x=ins 15 behind 0 0):=by show _=_;unfold xa6;rw[if_neg g1,if_neg g2,if_neg (by omega),if_neg g4,if_neg g12,if_neg (by omega),if_pos g17]
  clear g1 g2 g3 g11 g4 g12 g15 g16 g17 ha;go_wp2;refine bodyPost_ret (v:=IV (ins 15 behind 0 0)) ?_ rfl ⟨by rw[HR.out],hb3 _⟩
  simp[results,Tryz.results66,go_sem]
 have d17:(x.op == 17)=false:=by simpa using g17
 have HR:Hid (xa6 self args temps first behind x=x):=by show _=_;unfold xa6;rw[if_neg g1,if_neg g2,if_neg (by omega),if_neg g4,if_neg g12,if_neg (by omega),if_neg g17]
 clear g1 g2 g3 g11 g4 g12 g15 g16 g17 ha;go_wp2;refine bodyPost_ret (v:=IV x) ?_ rfl ⟨by rw[HR.out],hb3 _⟩
 simp[results,Tryz.results66,go_sem]
theorem xeJ {w:World}(T ty e:TypeId)(z:Value)(sz bytes:Nat)(hT:Tryz.prog.underlying T=some (.slice e))(hI:(Tryz.prog.info? e).map (fun i=>(i.zero,i.size,i.bytes))=some (some z,sz,bytes))(hzs:z.cells.size=sz)(hsz:0<sz)
  (base n:Nat) (v:Value) (xs:List Value) (hown:ownsAt w base e sz v n xs) (ad:Addr) (k kc:Nat) (hk:0<k) (news:List Value) (hl:news.length=k*sz) (hnews:∀ j u,news[j]?=some u->w.cell? (ad.add j)=some u) (h1:∀ u∈news,u.oneCell'=true) (h63:n+k<=maxLen) (hby:(n+k)*bytes<=140737488355328) (hbase:base<=w.heap.size) :
  ∃ v' w',(Builtin.append_ #[T,T] ty #[v,.slice (some ad) k kc]).run Tryz.prog w=.ok v' w'/\ownsAt w' base e sz v' (n+k) (xs++news)/\(v'.ownBlock=v.ownBlock\/∃ g,v'.ownBlock=some g/\w.heap.size<=g)/\Below base w w'/\(∀ b,b<w.heap.size->some b≠v.ownBlock->w'.heap[b]?=w.heap[b]?):=by
 obtain⟨i0,hi,hz0,hz1,hz2⟩:=xbd hI;obtain⟨hxl,⟨rfl,rfl⟩ | ⟨g,o,cap,cur,rfl,h3,h4,h5,h6,h7,h8⟩⟩:=id hown
 ·obtain⟨v',w',hrun,r1,r2,_⟩:=run_append_own (P:=Tryz.prog) w w.heap.size T ty e i0 z sz bytes hT hi hz0 hz1 hz2 hzs hsz (.slice none 0 0) 0 [] (World.ownsRow_nil w _ e sz) ad k kc news hl hnews h1 h63 hby (qzC _);have hxs:xs=[]:=List.eq_nil_of_length_eq_zero (by simpa using hxl)
  subst hxs;refine⟨v',w',hrun,xcr (by simpa using r1) hbase,Or.inr ?_,?_,fun b hb hne=>r2.block b hb hne⟩
  ·obtain⟨-,h | ⟨g,c,cur,e,h3,h4,-⟩⟩:=r1
   ·omega
   ·exact⟨g,by rw[e];rfl,h3⟩
  ·exact (Below.refl _ _).grown r2 hbase fun k hk=>by cases hk
 ·by_cases hr:n+k<=cap
  ·have hcs:cur.toList.length=cur.size:=by simp
   have hon:o+n*sz+news.length<=cur.size:=by
    have:(n+k)*sz<=cap*sz:=Nat.mul_le_mul_right _ hr;rw[Nat.add_mul] at this
    omega
   have hrun:=run_append_room_cells (P:=Tryz.prog) w T ty e i0 hT hi g o n cap ad k kc news (by rw[hz1];exact hl) hnews h1 hr (fun j hj=>by rw[hz1,qzB h4];simp;omega) (fun j hj=>by unfold World.frozen?;simp[h4])
   rw[hz1] at hrun;have hrow:=xcA news (o+n*sz) w cur h4 hon;refine⟨_,_,hrun,⟨by rw[List.length_append,hxl,hl,Nat.add_mul],Or.inr ⟨g,o,cap,_,rfl,h3,hrow,hr,h6,?_,?_⟩⟩,Or.inl rfl,?_,fun b hb hne=>xaQ (fun e=>hne (by rw[e];rfl)) _ _ _⟩
   ·simp
    omega
   ·rw[← h8]
    apply List.ext_getElem?
    intro i;simp only[List.getElem?_take,List.getElem?_drop,List.getElem?_append,List.length_append,List.length_take,List.length_drop,hcs];have e1:min (o+n*sz) cur.size=o+n*sz:=by omega
    have e2:min (n*sz) (cur.size-o)=n*sz:=by omega
    rw[e1,e2];have e3:(n+k)*sz=n*sz+k*sz:=by rw[Nat.add_mul]
    rw[e3]
    by_cases g1:i<n*sz
    ·simp[g1,show i<n*sz+k*sz by omega,show o+i<o+n*sz by omega,show o+i<o+n*sz+news.length by omega]
    ·by_cases g2:i<n*sz+k*sz
     ·simp[g1,g2,show ¬ (o+i<o+n*sz) by omega,show o+i<o+n*sz+news.length by omega,show o+i-(o+n*sz)=i-n*sz by omega]
     ·simp[g1,g2]
      omega
   ·refine⟨?_,?_,?_,?_,fun k hk=>xaQ (by omega) _ _ _⟩
    ·exact (xbh _ _ _ _).os
    ·exact (xbh _ _ _ _).tape
    ·exact (xbh _ _ _ _).output
    ·rw[xbu];exact qzC _
  ·obtain⟨v',w',hrun,r1,r2⟩:=run_append_arg_grows (P:=Tryz.prog) w T ty e i0 z sz bytes hT hi hz0 hz1 hz2 hzs hsz ⟨g,o,none⟩ n cap xs hxl (fun j u hu=>by
    rw[Addr.add_lit,qzB h4];rw[← h8,List.getElem?_take] at hu
    split at hu
    ·rw[List.getElem?_drop] at hu;simpa using hu
    ·cases hu) ad k kc news hl hnews (by omega) h63 hby
   refine⟨v',w',hrun,xcr r1 hbase,Or.inr ?_,?_,fun b hb hne=>r2.block b hb (by simp)⟩
   ·obtain⟨-,h | ⟨g,c,cur,e,h3,h4,-⟩⟩:=r1
    ·omega
    ·exact⟨g,by rw[e];rfl,h3⟩
   ·exact (Below.refl _ _).grown r2 hbase fun k hk=>by cases hk
theorem xfs {ops:Array Oper}{rest:List Oper}{o:Oper}{a:Act}{w:World}{Q:Exit->Act->World->Prop}(hgd:o.guard=none)(s x:Operand)(T e:TypeId)(z:Value)(sz bytes:Nat)
  (hop:o.op=Op.call { callee:=Callee.builtin Builtin.append,args:=#[s,x],argTypes:=#[T,T] }) (hT:Tryz.prog.underlying T=some (.slice e)) (hI:(Tryz.prog.info? e).map (fun i=>(i.zero,i.size,i.bytes))=some (some z,sz,bytes)) (hzs:z.cells.size=sz) (hsz:0<sz)
  (base n:Nat) (v:Value) (xs:List Value) (hs:a.eval s=v) (hown:ownsAt w base e sz v n xs) (ad:Addr) (k kc:Nat) (hk:0<k) (hx:a.eval x=.slice (some ad) k kc) (news:List Value) (hl:news.length=k*sz) (hnews:∀ j u,news[j]?=some u->w.cell? (ad.add j)=some u) (h1:∀ u∈news,u.oneCell'=true) (h63:n+k<=maxLen) (hby:(n+k)*bytes<=140737488355328) (hbase:base<=w.heap.size)
  (hK:∀ a' cap' w',ownsAt w' base e sz (.slice a' (n+k) cap') (n+k) (xs++news)->((Value.slice a' (n+k) cap').ownBlock=v.ownBlock\/∃ g,(Value.slice a' (n+k) cap').ownBlock=some g/\w.heap.size<=g)->Below base w w'->(∀ b,b<w.heap.size->some b≠v.ownBlock->w'.heap[b]?=w.heap[b]?)->wpList Tryz.prog ops Q rest (a.put o.dst (.slice a' (n+k) cap')) w') :
  wpList Tryz.prog ops Q (o :: rest) a w:=by
 refine wpList_plain hgd fun K hKK=>?_
 obtain⟨v',w',hrun,r1,r2,r3,r4⟩:=xeJ T o.type e z sz bytes hT hI hzs hsz base n v xs hown ad k kc hk news hl hnews h1 h63 hby hbase;obtain⟨a',cap',rfl,-⟩:=r1.form;unfold Oper.wp
 simp[execOp,hop,resolve,invoke,builtin,hs,hx,hrun,Result.andThen]
 exact hKK _ _ (hK a' cap' w' r1 r2 r3 r4)
theorem xfB {α:Type}{E:Lay α}{sz bytes:Nat}(G:Good E sz){t:TypeId}{Q:Nat->Prop}{B n:Nat}{v:Value}{w:World}{cs:List Value}{xs:List α}(hown:ownsAt w B t sz v n cs)(hc:Cells E sz Q w cs xs)(hn:xs.length=n)(hQ:∀ b,B<=b->b<w.heap.size->Q b)(hby:n*bytes<=140737488351232):IsRow E sz bytes Q w v xs:=by
 obtain⟨h0,⟨rfl,h1⟩ | ⟨g,o,cap,cur,rfl,h3,h4,h5,h6,h7,h8⟩⟩:=hown
 ·obtain rfl:=List.eq_nil_of_length_eq_zero (hn.trans h1)
  exact xbk
 ·subst hn;refine⟨_,_,rfl,h5,h6,hby,fun i x hx=>⟨g,o,rfl,hQ _ h3 (xai h4),G.move (hc.2 i x hx) (fun _ h=>h) (.refl _ _) fun k hk v hv=>?_⟩⟩
  rw[← h8,List.getElem?_take] at hv
  split at hv
  ·rw[List.getElem?_drop] at hv;rw[qzB h4,Nat.add_assoc]
   simpa using hv
  ·cases hv
def xa9:List QI->List Value
 | []=>[]
 | x :: r=>.int .i64 x.op :: .int .i64 x.a :: .int .i64 x.b :: .int .i64 x.c :: .string x.name :: xa9 r
theorem xdp:∀ q,(xa9 q).length=q.length*5
 | []=>rfl
 | p :: q=>by simp[xa9,xdp q];omega
theorem xdR:∀ q r,xa9 (q++r)=xa9 q++xa9 r
 | [],r=>rfl
 | p :: q,r=>by simp[xa9,xdR q r]
theorem xf0:∀ (q:List QI),∀ u∈xa9 q,u.oneCell'=true
 | [],u,h=>by simp[xa9] at h
 | p :: q,u,h=>by
  simp only[xa9,List.mem_cons] at h
  rcases h with rfl | rfl | rfl | rfl | rfl | h
  ·rfl
  ·rfl
  ·rfl
  ·rfl
  ·rfl
  ·exact xf0 q u h
theorem xgr:∀ {q:List QI} {i:Nat} {x:QI},q[i]?=some x->(xa9 q)[i*5]?=some (.int .i64 x.op)/\(xa9 q)[i*5+1]?=some (.int .i64 x.a)/\(xa9 q)[i*5+2]?=some (.int .i64 x.b)/\(xa9 q)[i*5+3]?=some (.int .i64 x.c)/\(xa9 q)[i*5+4]?=some (.string x.name)
 | [],i,x,h=>by simp at h
 | p :: q,0,x,h=>by simp at h;subst h;exact⟨rfl,rfl,rfl,rfl,rfl⟩
 | p :: q,i+1,x,h=>by
  have:=xgr (q:=q) (i:=i) (x:=x) (by simpa using h)
  rw[show (i+1)*5=i*5+1+1+1+1+1 by omega]
  exact this
def NmOk (xs:List QI):Prop:=∀ x∈xs,x.name.size<=140737488351232
theorem NmOk.append {xs ys:List QI}(h:NmOk xs)(k:NmOk ys):NmOk (xs++ys):=fun x hx=>by
 rcases List.mem_append.1 hx with h' | h'
 ·exact h x h'
 ·exact k x h'
theorem xhL {P:Nat->Prop}{w:World}{xs:List QI}(h:NmOk xs):Cells xea 5 P w (xa9 xs) xs:=⟨xdp _,fun i x hx=>by
 obtain⟨h0,h1,h2,h3,h4⟩:=xgr hx
 exact⟨by simpa using h0,h1,h2,h3,h4,h x (List.mem_of_getElem? hx)⟩⟩
theorem xoU {P:Nat->Prop}{w:World}{B:Nat}{v:Value}{xs:List QI}(h:ownsAt w B 57 5 v xs.length (xa9 xs))(hn:NmOk xs)(hP:∀ b,B<=b->b<w.heap.size->P b)(hl:xs.length<=100000):xaK P w v xs:=xfB xaV h (xhL hn) rfl hP (by omega)
structure PcB (w:World)(leaf:QM)(kv:Value)(sf args temps first behind:Int)(w':World):Prop where
 l1:w'.cell? ⟨w.heap.size,1,none⟩=some (.int .i64 leaf.args)
 l2:w'.cell? ⟨w.heap.size,2,none⟩=some (.int .i64 leaf.temps)
 l4:w'.cell? ⟨w.heap.size,4,none⟩=some kv
 p0:w'.cell? ⟨w.heap.size+2,0,none⟩=some (.int .i64 sf)
 p1:w'.cell? ⟨w.heap.size+2,1,none⟩=some (.int .i64 args)
 p2:w'.cell? ⟨w.heap.size+2,2,none⟩=some (.int .i64 temps)
 p3:w'.cell? ⟨w.heap.size+2,3,none⟩=some (.int .i64 first)
 p4:w'.cell? ⟨w.heap.size+2,4,none⟩=some (.int .i64 behind)
theorem xdc {lo:Nat}{w w':World}(hb:Below lo w w'){b o:Nat}{v:Value}(hl:b<lo)(h:w.cell? ⟨b,o,none⟩=some v):w'.cell? ⟨b,o,none⟩=some v:=by
 unfold World.cell? at h ⊢;rw[hb.block b hl]
 exact h
theorem PcB.below {w:World}{leaf:QM}{kv:Value}{self args temps first behind:Int}{w' w'':World}(h:PcB w leaf kv self args temps first behind w')(hb:Below (w.heap.size+3) w' w''):PcB w leaf kv self args temps first behind w'':=
 ⟨xdc hb (by omega) h.l1,xdc hb (by omega) h.l2,xdc hb (by omega) h.l4,xdc hb (by omega) h.p0,xdc hb (by omega) h.p1,xdc hb (by omega) h.p2,xdc hb (by omega) h.p3,xdc hb (by omega) h.p4⟩
theorem xnC (w:World)(leaf:QM)(kv:Value)(g:QI)(self args temps first behind:Int):PcB w leaf kv self args temps first behind (((w.alloc (.cells #[.string leaf.name,.int .i64 leaf.args,.int .i64 leaf.temps,.int .i64 leaf.prim,kv] 59)).alloc (.cells #[.int .i64 g.op,.int .i64 g.a,.int .i64 g.b,.int .i64 g.c,.string g.name] 57)).alloc (.cells #[.int .i64 self,.int .i64 args,.int .i64 temps,.int .i64 first,.int .i64 behind] 115)):=
 ⟨qzA (xbA _ _ _) (xaa w #[.string leaf.name,.int .i64 leaf.args,.int .i64 leaf.temps,.int .i64 leaf.prim,kv] 59 _ rfl 1),qzA (xbA _ _ _) (xaa w #[.string leaf.name,.int .i64 leaf.args,.int .i64 leaf.temps,.int .i64 leaf.prim,kv] 59 _ rfl 2),qzA (xbA _ _ _) (xaa w #[.string leaf.name,.int .i64 leaf.args,.int .i64 leaf.temps,.int .i64 leaf.prim,kv] 59 _ rfl 4),xaa _ _ _ _ (by simp) 0,xaa _ _ _ _ (by simp) 1,xaa _ _ _ _ (by simp) 2,xaa _ _ _ _ (by simp) 3,xaa _ _ _ _ (by simp) 4⟩
abbrev OwnI (w:World)(B:Nat)(a:Option Addr)(cap:Nat)(code:List QI):Prop:=ownsAt w B 57 5 (.slice a code.length cap) code.length (xa9 code)
theorem OwnI.more {w':World}{B cap':Nat}{a':Option Addr}{code ys:List QI}{k:Nat}{vs:List Value}(h:ownsAt w' B 57 5 (.slice a' (code.length+k) cap') (code.length+k) (xa9 code++vs))(hk:ys.length=k)(hv:xa9 ys=vs):OwnI w' B a' cap' (code++ys):=by
 unfold OwnI;rw[xdR,List.length_append,hk,hv]
 exact h
theorem xlC {w:World}{B B' cap:Nat}{a:Option Addr}{code:List QI}(h:OwnI w B a cap code)(hb:B'<=B):OwnI w B' a cap code:=by
 obtain⟨h1,h2 | ⟨g,o,c,cur,e,h3,h4⟩⟩:=h
 ·exact⟨h1,Or.inl h2⟩
 ·exact⟨h1,Or.inr ⟨g,o,c,cur,e,qzD hb h3,h4⟩⟩
theorem xnj {lo:Nat}{w w' w'':World}(h:Below lo w w')(k:Below w'.heap.size w' w'')(hl:lo<=w'.heap.size):Below lo w w'':=h.trans ⟨k.os,k.tape,k.output,k.size,fun b hb=>k.block b (by omega)⟩
theorem xeG {lo:Nat}{w w':World}(h:Below lo w w')(o:Obj)(hl:lo<=w'.heap.size):Below lo w (w'.alloc o):=xnj h (xaj _ _) hl
theorem xjU {P:Nat->Prop}(lname:ByteArray)(A T:Nat)(lprim:Int)(lc:List QI)(g:QI)(self tm first behind:Int)(kv:Value)(w:World)(hk:xaK P w kv lc)(hA4:A<=4)(hT6:T<=6)(hs:0<=self/\self<=100)(htm:0<=tm/\tm<=200)(hf:0<=first/\first<=1000)(hl60:lc.length<=60)
  (hx:∀ x∈lc,(x.op=2\/x.op=3\/x.op=11\/x.op=15\/x.op=16)->0<=x.a/\x.a<=1000) (R:List QI) (HR:Hid (R=[g,ins 21 0 0 0]++xdJ (self+1) A++[ins 11 self 0 0]++xcY tm T++lc.map (xa6 self (self+1) tm first behind))) :
  Calls Tryz.prog 44 #[MV ⟨lname,A,T,lprim,lc⟩ kv,IV g,PlV self (self+1) tm first behind] w fun e w'=>∃ a cap,e=.returned (.slice a R.length cap)/\OwnI w' w.heap.size a cap R/\Below w.heap.size w w':=by
 obtain⟨ak,ck,rfl,hlk,hck,-,hrow⟩:=id hk;unfold maxLen at hck;have hB0:=xnC w ⟨lname,A,T,lprim,lc⟩ (.slice ak lc.length ck) g self (self+1) tm first behind
 have hb3:=xeQ w (.cells #[.string lname,.int .i64 (A:Int),.int .i64 (T:Int),.int .i64 lprim,.slice ak lc.length ck] 59) (.cells #[.int .i64 g.op,.int .i64 g.a,.int .i64 g.b,.int .i64 g.c,.string g.name] 57) (.cells #[.int .i64 self,.int .i64 (self+1),.int .i64 tm,.int .i64 first,.int .i64 behind] 115)
 have hz3:(((w.alloc (.cells #[.string lname,.int .i64 (A:Int),.int .i64 (T:Int),.int .i64 lprim,.slice ak lc.length ck] 59)).alloc (.cells #[.int .i64 g.op,.int .i64 g.a,.int .i64 g.b,.int .i64 g.c,.string g.name] 57)).alloc (.cells #[.int .i64 self,.int .i64 (self+1),.int .i64 tm,.int .i64 first,.int .i64 behind] 115)).heap.size=w.heap.size+3:=by simp
 go_enter Tryz.func44,Tryz.ntmps44
 go_upto_region 2 with (fail)
 generalize (((w.alloc (.cells #[.string lname,.int .i64 (A:Int),.int .i64 (T:Int),.int .i64 lprim,.slice ak lc.length ck] 59)).alloc (.cells #[.int .i64 g.op,.int .i64 g.a,.int .i64 g.b,.int .i64 g.c,.string g.name] 57)).alloc (.cells #[.int .i64 self,.int .i64 (self+1),.int .i64 tm,.int .i64 first,.int .i64 behind] 115))=W0 at *
 simp only[Nat.add_assoc,Nat.reduceAdd];have hb4:Below (w.heap.size+3) W0 (W0.alloc (.cells #[.int .i64 g.op,.int .i64 g.a,.int .i64 g.b,.int .i64 g.c,.string g.name,.int .i64 21,.int .i64 0,.int .i64 0,.int .i64 0,.string ⟨#[]⟩] 57)):=xeG (Below.refl _ _) _ (by omega)
 have hz4:w.heap.size+4<=(W0.alloc (.cells #[.int .i64 g.op,.int .i64 g.a,.int .i64 g.b,.int .i64 g.c,.string g.name,.int .i64 21,.int .i64 0,.int .i64 0,.int .i64 0,.string ⟨#[]⟩] 57)).heap.size:=by simp;omega
 have hO:OwnI (W0.alloc (.cells #[.int .i64 g.op,.int .i64 g.a,.int .i64 g.b,.int .i64 g.c,.string g.name,.int .i64 21,.int .i64 0,.int .i64 0,.int .i64 0,.string ⟨#[]⟩] 57)) (w.heap.size+3) (some ⟨w.heap.size+3,0,none⟩) 2 [g,ins 21 0 0 0]:=by
  refine⟨rfl,Or.inr ⟨w.heap.size+3,0,2,_,rfl,qzC _,by rw[← hz3];exact heap_alloc_new W0 _,qzC _,by unfold maxLen;omega,qzC _,rfl⟩⟩
 have hB:=hB0.below hb4;have hbw:Below w.heap.size w (W0.alloc (.cells #[.int .i64 g.op,.int .i64 g.a,.int .i64 g.b,.int .i64 g.c,.string g.name,.int .i64 21,.int .i64 0,.int .i64 0,.int .i64 0,.string ⟨#[]⟩] 57)):=xae hb3 (xaj _ _);generalize (W0.alloc (.cells #[.int .i64 g.op,.int .i64 g.a,.int .i64 g.b,.int .i64 g.c,.string g.name,.int .i64 21,.int .i64 0,.int .i64 0,.int .i64 0,.string ⟨#[]⟩] 57))=W at *;clear hB0 hb3 hz3 hb4 hrow W0;have hwA:IntKind.i64.wrap ((A:Int)-1)=(A:Int)-1:=xaq (by omega) (by omega)
 have l1:=hB.l1;dsimp only at l1;go_wp2;clear l1
 go_loopg [7,8] A (fun gk cv nv wr=>∃ (a:Option Addr) (cap:Nat) (code:List QI),nv=.int .i64 ((gk:Int)-1)/\cv=.slice a code.length cap/\OwnI wr (w.heap.size+3) a cap code/\Hid (code++xdJ (self+1) gk=[g,ins 21 0 0 0]++xdJ (self+1) A)/\Below (w.heap.size+3) W wr/\code.length+gk=A+2)
 case atStart=>exact⟨_,_,_,rfl,rfl,hO,rfl,Below.refl _ _,by simp;omega⟩
 case round=>
  clear hO;obtain⟨a,cap,code,rfl,rfl,hO,HC,hb,hcl⟩:=hrel;have hzr:w.heap.size+4<=wr.heap.size:=qzD hz4 hb.size
  have hcap:code.length<=cap/\cap<=9223372036854775807:=by
   obtain⟨a',c',e,h1,h2⟩:=hO.form
   cases e;unfold maxLen at h2;omega
  cases gk with
  | zero=>
   have HC0:Hid (code=[g,ins 21 0 0 0]++xdJ (self+1) A):=by show _=_;rw[← HC.out];simp[xdJ]
   have hd0:decide ((0:Int)<=((0:Nat):Int)-1)=false:=by decide
   have p0:=(hB.below hb).p0;have l2:wr.cell? ⟨w.heap.size,2,none⟩=some (.int .i64 (T:Int)):=(hB.below hb).l2
   go_upto_region 7 with (at_builtin;refine xbe rfl (.tmp 30) (.tmp 34) 47 57 _ 5 48 rfl Tryz.underlying47 xeK rfl (by omega) (w.heap.size+3) code.length (.slice a code.length cap) (xa9 code) rfl (hO.alloc _) wr.heap.size rfl [.int .i64 11,.int .i64 self,.int .i64 0,.int .i64 0,.string ⟨#[]⟩] rfl (heap_alloc_new _ _) (by intro u hu;simp only[List.mem_cons,List.not_mem_nil,or_false] at hu;rcases hu with h | h | h | h | h<;>(subst h;rfl)) (by unfold maxLen;omega) (by omega) (by simp;omega) ?_;intro a1 cap1 w1 r1 r2 r3 r4)
   have hO1:=OwnI.more (ys:=[ins 11 self 0 0]) r1 rfl rfl;have hb1:=(xeG hb (.cells #[.int .i64 11,.int .i64 self,.int .i64 0,.int .i64 0,.string ⟨#[]⟩] 57) (by omega)).trans r3
   have hz1:w.heap.size+4<=w1.heap.size:=qzD hz4 hb1.size;clear r1 r2 r3 r4 hO HC p0 l2;obtain⟨C1,hC1⟩:∃ C1,C1=code++[ins 11 self 0 0]:=⟨_,rfl⟩;have hl1:code.length+1=C1.length:=by rw[hC1];simp
   have HLC:Hid (C1.length=A+3):=by show _=_;omega
   rw[← hC1] at hO1;rw[hl1];have HC1:Hid (C1=[g,ins 21 0 0 0]++xdJ (self+1) A++[ins 11 self 0 0]):=by show _=_;rw[hC1,HC0.out]
   clear hC1 HC0 hl1 hcl hzr hcap;have l2:w1.cell? ⟨w.heap.size,2,none⟩=some (.int .i64 (T:Int)):=(hB.below hb1).l2;go_wp2;clear l2
   go_loopg [7,38] T (fun g2 cv iv wr=>∃ (i:Nat) (a:Option Addr) (cap:Nat),i+g2=T/\iv=.int .i64 (i:Int)/\cv=.slice a (C1++xcY tm i).length cap/\OwnI wr (w.heap.size+3) a cap (C1++xcY tm i)/\Below (w.heap.size+3) W wr)
   case atStart=>exact⟨0,a1,cap1,by omega,rfl,by simp[xcY],by simpa [xcY] using hO1,hb1⟩
   case round=>
    clear hO1 hb1 hz1 hb;obtain⟨i,a,cap,hi,rfl,rfl,hO,hb⟩:=hrel;have hzr:w.heap.size+4<=wr.heap.size:=qzD hz4 hb.size;have HCL:Hid ((C1++xcY tm i).length=A+3+2*i):=by show _=_;rw[List.length_append,xfc,HLC.out]
    have hcl:(C1++xcY tm i).length<=20:=by have:=HCL.out;omega
    have hcap:(C1++xcY tm i).length<=cap/\cap<=9223372036854775807:=by
     obtain⟨a',c',e,h1,h2⟩:=hO.form
     cases e;unfold maxLen at h2;exact⟨h1,by omega⟩
    by_cases hlt:i<T
    ·have hd:decide ((i:Int)<(T:Int))=true:=by simp;omega
     have p2:=(hB.below hb).p2;have hw1:IntKind.i64.wrap (tm+(i:Int))=tm+(i:Int):=xaq (by omega) (by omega)
     obtain⟨cd,hcd⟩:∃ cd,cd=C1++xcY tm i:=⟨_,rfl⟩;have HCD:Hid (cd++[ins 6 0 0 0,ins 11 (tm+(i:Int)) 0 0]=C1++xcY tm (i+1)):=by show _=_;rw[hcd,xeA];simp
     rw[← hcd] at hO hcl hcap HCL ⊢;clear hcd
     go_wp2_with (at_builtin;refine xfs rfl (.tmp 41) (.tmp 48) 47 57 _ 5 48 rfl Tryz.underlying47 xeK rfl (by omega) (w.heap.size+3) cd.length (.slice a cd.length cap) (xa9 cd) rfl (hO.alloc _) ⟨wr.heap.size,0,none⟩ 2 2 (by omega) rfl [.int .i64 6,.int .i64 0,.int .i64 0,.int .i64 0,.string ⟨#[]⟩,.int .i64 11,.int .i64 (tm+(i:Int)),.int .i64 0,.int .i64 0,.string ⟨#[]⟩] rfl (fun j u hj=>by rw[Addr.add_lit,Nat.zero_add,qzB (heap_alloc_new _ _)];simpa using hj) (by intro u hu;simp only[List.mem_cons,List.not_mem_nil,or_false] at hu;rcases hu with h | h | h | h | h | h | h | h | h | h<;>(subst h;rfl)) (by unfold maxLen;omega) (by omega) (by simp;omega) ?_;intro a' cap' w' r1 r2 r3 r4;have hO':=xb7 (OwnI.more (ys:=[ins 6 0 0 0,ins 11 (tm+(i:Int)) 0 0]) r1 rfl rfl);have hb':=xb7 ((xeG hb (.cells #[.int .i64 6,.int .i64 0,.int .i64 0,.int .i64 0,.string ⟨#[]⟩,.int .i64 11,.int .i64 (tm+(i:Int)),.int .i64 0,.int .i64 0,.string ⟨#[]⟩] 57) (by omega)).trans r3);clear r1 r2 r3 r4)
     go_roundg (T-(i+1))
     case measure=>omega
     case rel=>
      refine⟨i+1,_,_,by omega,by go_num,?_,by rw[← HCD.out];exact hO'.out,hb'.out⟩
      rw[← HCD.out];simp
    ·obtain rfl:i=T:=by omega
     have hd:decide ((i:Int)<(i:Int))=false:=by simp
     obtain⟨C2,hC2⟩:∃ C2,C2=C1++xcY tm i:=⟨_,rfl⟩;have HC2:Hid (C2=[g,ins 21 0 0 0]++xdJ (self+1) A++[ins 11 self 0 0]++xcY tm i):=by show _=_;rw[hC2,HC1.out]
     rw[← hC2] at hO hcl hcap HCL ⊢;clear hC2 HC1 HLC hlt hi;have l4:wr.cell? ⟨w.heap.size,4,none⟩=some (.slice ak lc.length ck):=(hB.below hb).l4;go_wp2;clear l4
     go_loopg [7,54] lc.length (fun g3 cv iv wr=>∃ (k:Nat) (a:Option Addr) (cap:Nat),k+g3=lc.length/\iv=.int .i64 (k:Int)/\cv=.slice a (C2++(lc.take k).map (xa6 self (self+1) tm first behind)).length cap/\OwnI wr (w.heap.size+3) a cap (C2++(lc.take k).map (xa6 self (self+1) tm first behind))/\Below (w.heap.size+3) W wr)
     case atStart=>exact⟨0,a,cap,by omega,rfl,by simp,by simpa using hO,hb⟩
     case round=>
      clear hO hb hzr hcap;obtain⟨k,a,cap,hkk,rfl,rfl,hO,hb⟩:=hrel;have hzr:w.heap.size+4<=wr.heap.size:=qzD hz4 hb.size;have hcl2:(C2++(lc.take k).map (xa6 self (self+1) tm first behind)).length<=100:=by have:=HCL.out;simp;omega
      have hcap:(C2++(lc.take k).map (xa6 self (self+1) tm first behind)).length<=cap/\cap<=9223372036854775807:=by
       obtain⟨a',c',e,h1,h2⟩:=hO.form
       cases e;unfold maxLen at h2;exact⟨h1,by omega⟩
      have hbr:Below w.heap.size w wr:=hbw.trans ⟨hb.os,hb.tape,hb.output,hb.size,fun b hb'=>hb.block b (by omega)⟩
      by_cases hlt:k<lc.length
      ·have hxk:lc[k]?=some lc[k]:=by simp[hlt]
       obtain⟨ad2,cap2,e2,-,-,-,hrow⟩:=hk.later xaV hbr
       cases e2
       obtain⟨b,o,rfl,-,u0,u1,u2,u3,u4,-⟩:=hrow k lc[k] hxk;have hxa:=hx lc[k] (List.getElem_mem hlt);have HTK:Hid (C2++(lc.take (k+1)).map (xa6 self (self+1) tm first behind)=C2++(lc.take k).map (xa6 self (self+1) tm first behind)++[xa6 self (self+1) tm first behind lc[k]]):=by show _=_;rw[List.take_add_one,hxk,List.map_append,← List.append_assoc];rfl
       generalize lc[k]=x at *;simp only[Nat.add_zero] at u0;obtain⟨cd,hcd⟩:∃ cd,cd=C2++(lc.take k).map (xa6 self (self+1) tm first behind):=⟨_,rfl⟩
       rw[← hcd] at hO hcl2 hcap HTK ⊢;clear hcd hrow hxk;have hk1:(k:Int)<(lc.length:Int):=by omega
       have hk0:(0:Int)<=(k:Int):=by omega
       have hbx:=xaj wr (.cells #[.int .i64 x.op,.int .i64 x.a,.int .i64 x.b,.int .i64 x.c,.string x.name] 57);have hBx:=(hB.below hb).below (⟨hbx.os,hbx.tape,hbx.output,hbx.size,fun b hb'=>hbx.block b (by omega)⟩:Below (w.heap.size+3) _ _)
       obtain⟨-,-,-,p0,p1,p2,p3,p4⟩:=hBx;go_wp2_with fail;refine (xiK self (self+1) tm first behind x _ (by omega) (by omega) hf hxa).mono ?_
       rintro e w1 ⟨rfl,hb1⟩;dsimp only;generalize xa6 self (self+1) tm first behind x=y at *
       have hO1:OwnI w1 (w.heap.size+3) a cap cd:=hO.keep fun g hg=>by rw[hb1.block g (by have:=(hO.lt g hg).2;simp;omega),hbx.block g (hO.lt g hg).2]
       have hbB:Below (w.heap.size+3) W w1:=xnj (xeG hb (.cells #[.int .i64 x.op,.int .i64 x.a,.int .i64 x.b,.int .i64 x.c,.string x.name] 57) (by omega)) hb1 (by simp;omega)
       have hz1:w.heap.size+4<=w1.heap.size:=qzD hz4 hbB.size;clear p0 p1 p2 p3 p4 u0 u1 u2 u3 u4 hO hb hbx hb1
       go_wp2_with (at_builtin;refine xbe rfl (.tmp 58) (.tmp 62) 47 57 _ 5 48 rfl Tryz.underlying47 xeK rfl (by omega) (w.heap.size+3) cd.length (.slice a cd.length cap) (xa9 cd) rfl (hO1.alloc _) w1.heap.size rfl [.int .i64 y.op,.int .i64 y.a,.int .i64 y.b,.int .i64 y.c,.string y.name] rfl (heap_alloc_new _ _) (by intro u hu;simp only[List.mem_cons,List.not_mem_nil,or_false] at hu;rcases hu with h | h | h | h | h<;>(subst h;rfl)) (by unfold maxLen;omega) (by omega) (by simp;omega) ?_;intro a' cap' w' r1 r2 r3 r4;have hO':=xb7 (OwnI.more (ys:=[y]) r1 rfl rfl);have hb':=xb7 ((xeG hbB (.cells #[.int .i64 y.op,.int .i64 y.a,.int .i64 y.b,.int .i64 y.c,.string y.name] 57) (by omega)).trans r3);clear r1 r2 r3 r4)
       go_roundg (lc.length-(k+1))
       case measure=>omega
       case rel=>
        refine⟨k+1,_,_,by omega,by go_num,?_,by rw[HTK.out];exact hO'.out,hb'.out⟩
        rw[HTK.out];simp
      ·obtain rfl:k=lc.length:=by omega
       have HE:Hid (C2++(lc.take lc.length).map (xa6 self (self+1) tm first behind)=R):=by show _=_;rw[HR.out,HC2.out,List.take_length]
       rw[HE.out] at hO ⊢;have HO:=xb7 (xlC (B':=w.heap.size) hO (by omega))
       have HBR:=xb7 hbr;clear hO hbr hcl2 hcap;go_wp2
       go_ret
       exact⟨_,_,rfl,HO.out,HBR.out⟩
  | succ j=>
   have hnn:(((j+1:Nat):Int)-1)=(j:Int):=by omega
   rw[hnn];have hd0:decide ((0:Int)<=(j:Int))=true:=by simp
   have p1:=(hB.below hb).p1;have hw1:IntKind.i64.wrap (self+1+(j:Int))=self+1+(j:Int):=xaq (by omega) (by omega)
   have hw2:IntKind.i64.wrap ((j:Int)-1)=(j:Int)-1:=xaq (by omega) (by omega)
   go_wp2_with (at_builtin;refine xbe rfl (.tmp 22) (.tmp 28) 47 57 _ 5 48 rfl Tryz.underlying47 xeK rfl (by omega) (w.heap.size+3) code.length (.slice a code.length cap) (xa9 code) rfl (hO.alloc _) wr.heap.size rfl [.int .i64 11,.int .i64 (self+1+(j:Int)),.int .i64 0,.int .i64 0,.string ⟨#[]⟩] rfl (heap_alloc_new _ _) (by intro u hu;simp only[List.mem_cons,List.not_mem_nil,or_false] at hu;rcases hu with h | h | h | h | h<;>(subst h;rfl)) (by unfold maxLen;omega) (by omega) (by simp;omega) ?_;intro a' cap' w' r1 r2 r3 r4;have hO':=xb7 (OwnI.more (ys:=[ins 11 (self+1+(j:Int)) 0 0]) r1 rfl rfl);have hb':=xb7 ((xeG hb (.cells #[.int .i64 11,.int .i64 (self+1+(j:Int)),.int .i64 0,.int .i64 0,.string ⟨#[]⟩] 57) (by omega)).trans r3);clear r1 r2 r3 r4)
   go_roundg j
   case measure=>omega
   case rel=>exact⟨_,_,_,by go_num,by simp,hO'.out,by show _=_;rw[← HC.out];simp[xdJ],hb'.out,by simp;omega⟩
theorem xla {P:Nat->Prop}(leaf:QM)(g:QI)(self n:Int)(kv:Value)(w:World)(hk:xaK P w kv leaf.code)(ha:0<=leaf.args/\leaf.args<=4)(ht:0<=leaf.temps/\leaf.temps<=6)(hs:0<=self/\self<=100)(hn:0<=n/\n<=300)(hl60:leaf.code.length<=60)
  (hx:∀ x∈leaf.code,(x.op=2\/x.op=3\/x.op=11\/x.op=15\/x.op=16)->0<=x.a/\x.a<=1000) :
  Calls Tryz.prog 44 #[MV leaf kv,IV g,PlV self (self+1) (self+1+leaf.args) (xbN leaf n) (xbN leaf n+leaf.code.length)] w fun e w'=>∃ a cap,e=.returned (.slice a (xdz leaf g self n).length cap)/\OwnI w' w.heap.size a cap (xdz leaf g self n)/\Below w.heap.size w w':=by
 obtain⟨lname,largs,ltemps,lprim,lc⟩:=leaf;obtain⟨A,rfl⟩:∃ A:Nat,largs=(A:Int):=⟨largs.toNat,by simp only at ha;omega⟩
 obtain⟨T,rfl⟩:∃ T:Nat,ltemps=(T:Int):=⟨ltemps.toNat,by simp only at ht;omega⟩
 simp only at ha ht hl60 hx hk;refine xjU lname A T lprim lc g self _ _ _ kv w hk (by omega) (by omega) hs (by simp only;omega) (by unfold xbN;simp only;omega) hl60 hx _ ?_
 show _=_
 unfold xdz xkF
 simp
section
variable {P:Program} {md:Region.Mode} {ops:Array Oper} {Q:Exit->Act->World->Prop} {S:World->Prop}
def xc6 (P:Program)(md:Region.Mode)(ops:Array Oper)(Q:Exit->Act->World->Prop)(S:World->Prop)(L:Nat):Nat->Array Bool->Act->World->Prop
 | 0,listed,a,w=>Region.ready md ops listed=[]/\Q .normal a w
 | fuel+1,listed,a,w=>
  (Region.ready md ops listed=[]->Q .normal a w)/\
  ∀ i∈Region.ready md ops listed,wpOp P ops Q i (fun a' w'=>(i≠L->S w')/\xc6 P md ops Q S L fuel (listed.setIfInBounds i true) a' w') a w
theorem xd3 {L:Nat}:∀ (fuel:Nat) (listed:Array Bool) (a:Act) (w:World),xc6 P md ops Q S L fuel listed a w->wpAny P md ops Q fuel listed a w
 | 0,_,_,_,h=>h
 | fuel+1,_,_,_,h=>⟨h.1,fun i hi=>wpOp_mono (fun a' w' h'=>xd3 fuel _ a' w' h'.2) (h.2 i hi)⟩
def xlX (md:Region.Mode)(ops:Array Oper)(L:Nat):Bool:=
 match ops[L]? with
 | none=>false
 | some o=>(List.range ops.size).all fun k=>k == L || o.after.any fun e=>Region.binds md e && e.on == k
theorem xib {L i:Nat}{listed:Array Bool}(h:xlX md ops L=true)(hi:i∈Region.ready md ops listed)(hL:L∈Region.ready md ops listed):i=L:=by
 by_cases hne:i=L
 ·exact hne
 ·obtain⟨hjun,oj,hoj,hall⟩:=mem_ready.1 hL;obtain⟨hiun,oi,hoi,-⟩:=mem_ready.1 hi;unfold xlX at h;rw[hoj] at h;simp only[List.all_eq_true,List.mem_range] at h;have hlt:i<ops.size:=(Array.getElem?_eq_some_iff.1 hoi).1;have:=h i hlt;simp only[Bool.or_eq_true,beq_iff_eq,hne,false_or,Array.any_eq_true,Bool.and_eq_true] at this;obtain⟨x,hx,hb,ho⟩:=this;have h1:=hall _ (Array.getElem_mem hx) hb;rw[ho] at h1
  rcases Nat.lt_or_ge i listed.size with h' | h'
  ·simp[h'] at hiun h1
   rw[hiun] at h1
   cases h1
  ·simp[Array.getElem?_eq_none h'] at h1
theorem xhl {L i:Nat}{oi:Oper}{v:Value}(hlast:xlX md ops L=true)(hiL:i≠L)(hi:ops[i]?=some oi)(hsel:∀ (j:Nat) (o:Oper) cs b,ops[j]?=some o->o.op≠.select cs b)
  (hQ:∀ c a w,Q (.panic c) (a.put oi.dst v) w->Q (.panic c) a w) :
  ∀ (fuel:Nat) (listed:Array Bool) (a:Act) (w:World),
   (∀ j oj,ops[j]?=some oj->j≠i->listed.getD j true=false->(∀ e∈oj.after,Region.binds md e=true->e.on≠i)->oi.apart ops oj=true)->
   i∈Region.ready md ops listed->YieldsIf P ops S oi v a->S w->
   xc6 P md ops Q S L fuel (listed.setIfInBounds i true) (a.put oi.dst v) w->xc6 P md ops Q S L (fuel+1) listed a w:=by
 intro fuel
 induction fuel with
 | zero=>
  intro listed a w _ hr hy hS H;refine⟨fun h=>(by rw[h] at hr;cases hr),fun j hj=>?_⟩
  by_cases hji:j=i
  ·subst hji;exact hy.wpOp hi hS ⟨fun _=>hS,H⟩
  ·have:=ready_mono hj hji;rw[H.1] at this
   cases this
 | succ fuel ih=>
  intro listed a w hfree hr hy hS H;refine⟨fun h=>(by rw[h] at hr;cases hr),fun j hj=>?_⟩
  by_cases hji:j=i
  ·subst hji;exact hy.wpOp hi hS ⟨fun _=>hS,H⟩
  ·have hjL:j≠L:=fun e=>by subst e;exact hji (xib hlast hr hj).symm
   have h1:=H.2 j (ready_mono hj hji);obtain⟨hjun,oj,hoj,hall⟩:=mem_ready.1 hj
   have hnot:∀ e∈oj.after,Region.binds md e=true->e.on≠i:=fun e he hb heq=>by
    have h1:=hall e he hb;have h0:=(mem_ready.1 hr).1;rw[heq] at h1
    rcases Nat.lt_or_ge i listed.size with h' | h'
    ·simp[h'] at h0 h1;rw[h0] at h1;cases h1
    ·simp[Array.getElem?_eq_none h'] at h1
   have h2:=wpOp_putIf hoj (hfree j oj hoj hji hjun hnot) (fun cs b=>hsel i oi cs b hi) (fun cs b=>hsel j oj cs b hoj) hQ hy h1
   have hfree':∀ k ok,ops[k]?=some ok->k≠i->(listed.setIfInBounds j true).getD k true=false->
     (∀ e∈ok.after,Region.binds md e=true->e.on≠i)->oi.apart ops ok=true:=fun k ok hk hki hun hno=>by
    refine hfree k ok hk hki ?_ hno
    by_cases hjk:j=k
    ·subst hjk;exact hjun
    ·rw[getD_set_ne true hjk] at hun;exact hun
   refine wpOp_mono (fun a' w' h3=>⟨fun _=>h3.2.1 hjL,ih (listed.setIfInBounds j true) a' w' hfree' (ready_mono hr (Ne.symm hji)) h3.1 (h3.2.1 hjL) ?_⟩) h2
   rw[Array.setIfInBounds_comm _ _ hji]
   exact h3.2.2
theorem xbt {L i:Nat}{oi:Oper}{v:Value}{fuel:Nat}{listed:Array Bool}{a:Act}{w:World}(hlast:xlX md ops L=true)(hiL:(i == L)=false)(hi:ops[i]?=some oi)
  (hs:Region.noSelect ops=true) (hf:Region.free md ops listed i=true) (hr:(Region.ready md ops listed).contains i=true)
  (hQ:∀ c a w,Q (.panic c) (a.put oi.dst v) w->Q (.panic c) a w) (hy:YieldsIf P ops S oi v a) (hS:S w)
  (h:xc6 P md ops Q S L fuel (listed.setIfInBounds i true) (a.put oi.dst v) w):xc6 P md ops Q S L (fuel+1) listed a w:=
 xhl hlast (by simpa using hiL) hi (Region.noSelect_spec hs) hQ fuel listed a w (Region.free_spec hi hf) (by simpa using hr) hy hS h
theorem xh5 {L:Nat}{listed:Array Bool}{a:Act}{w:World}(hr:Region.ready md ops listed=[])(h:Q .normal a w):∀ fuel,xc6 P md ops Q S L fuel listed a w
 | 0=>⟨hr,h⟩
 | _+1=>⟨fun _=>h,by rw[hr];simp⟩
theorem xcB {L:Nat}{rs:List Nat}{fuel:Nat}{listed:Array Bool}{a:Act}{w:World}(hr:Region.ready md ops listed=rs)(hne:rs≠[])
  (h:∀ i∈rs,wpOp P ops Q i (fun a' w'=>(i≠L->S w')/\xc6 P md ops Q S L fuel (listed.setIfInBounds i true) a' w') a w):xc6 P md ops Q S L (fuel+1) listed a w:=
 ⟨fun h0=>absurd (hr ▸ h0) hne,hr ▸ h⟩
theorem xmK {L i:Nat}{fuel:Nat}{listed:Array Bool}{a:Act}{w:World}{o:Oper}(ho:ops[i]?=some o)
  (h:∀ K':Act->World->Prop,(∀ a w,(i≠L->S w)->xc6 P md ops Q S L fuel (listed.setIfInBounds i true) a w->K' a w)->if Region.wanted o (yielded ops a.tmps)=true then Oper.wp P o a w K' Q else K' (a.put o.dst undef) w) :
  wpOp P ops Q i (fun a' w'=>(i≠L->S w')/\xc6 P md ops Q S L fuel (listed.setIfInBounds i true) a' w') a w:=
 wpOp_step ho (fun K' hK=>h K' (fun a w hS hW=>hK a w ⟨hS,hW⟩))
theorem xfU {id:Nat}{a:Act}{w:World}(L:Nat)(hm:P.follows .mixedOrders=true)
  (h:xc6 P .any ops Q S L ops.size (Array.replicate ops.size false) a w.drew):(Code.region id ops true).wp P Q a w:=
 wp_region_any hm (xd3 _ _ _ _ h)
end
section
variable {P:Program} {md:Region.Mode} {ops:Array Oper} {Q:Exit->Act->World->Prop} {S:World->Prop}
def xbF (P:Program)(md:Region.Mode)(ops:Array Oper)(Q:Exit->Act->World->Prop)(S:World->Prop)(late:List Nat):Nat->Array Bool->Act->World->Prop
 | 0,listed,a,w=>Region.ready md ops listed=[]/\Q .normal a w
 | fuel+1,listed,a,w=>
  (Region.ready md ops listed=[]->Q .normal a w)/\
  ∀ i∈Region.ready md ops listed,wpOp P ops Q i (fun a' w'=>(late.contains i=false->S w')/\xbF P md ops Q S late fuel (listed.setIfInBounds i true) a' w') a w
theorem xdS {late:List Nat}:∀ (fuel:Nat) (listed:Array Bool) (a:Act) (w:World),xbF P md ops Q S late fuel listed a w->wpAny P md ops Q fuel listed a w
 | 0,_,_,_,h=>h
 | fuel+1,_,_,_,h=>⟨h.1,fun i hi=>wpOp_mono (fun a' w' h'=>xdS fuel _ a' w' h'.2) (h.2 i hi)⟩
def xoR (md:Region.Mode)(ops:Array Oper)(i:Nat):Nat->Nat->Bool
 | 0,_=>false
 | n+1,k=>match ops[k]? with
  | none=>false
  | some o=>o.after.any fun e=>Region.binds md e && (e.on == i || xoR md ops i n e.on)
def xoD (md:Region.Mode)(ops:Array Oper)(listed:Array Bool):Prop:=∀ k o,ops[k]?=some o->listed.getD k true=true->∀ e∈o.after,Region.binds md e=true->listed.getD e.on true=true
def xmc (md:Region.Mode)(ops:Array Oper)(listed:Array Bool):Bool:=
 (List.range ops.size).all fun k=>match ops[k]? with
  | none=>true
  | some o=>!(listed.getD k true) || o.after.all fun e=>!(Region.binds md e) || listed.getD e.on true
theorem xj2 {listed:Array Bool}(h:xmc md ops listed=true):xoD md ops listed:=by
 intro k o hk hl e he hb;unfold xmc at h;rw[List.all_eq_true] at h;have:=h k (List.mem_range.2 (Array.getElem?_eq_some_iff.1 hk).1);rw[hk] at this;simp only[hl,Bool.not_true,Bool.false_or,Array.all_eq_true'] at this;have h1:=this e he
 simpa [hb] using h1
theorem xeb {l:Array Bool}{i k:Nat}(h:l.getD k true=true):(l.setIfInBounds i true).getD k true=true:=by
 by_cases hik:i=k
 ·subst hik
  rcases Nat.lt_or_ge i l.size with h' | h'
  ·simp[h']
  ·simp[h']
 ·rw[getD_set_ne true hik];exact h
theorem xj8 {listed:Array Bool}{i:Nat}(hd:xoD md ops listed)(hi:i∈Region.ready md ops listed):xoD md ops (listed.setIfInBounds i true):=by
 intro k o hk hl e he hb;obtain⟨hiun,oi,hoi,hall⟩:=mem_ready.1 hi
 by_cases hki:i=k
 ·subst hki;rw[hoi] at hk
  cases hk
  have h1:=hall e he hb;refine xeb ?_
  rcases Nat.lt_or_ge e.on listed.size with h' | h'
  ·simp[h'] at h1 ⊢;exact h1
  ·simp[Array.getElem?_eq_none h']
 ·rw[getD_set_ne true hki] at hl
  exact xeb (hd k o hk hl e he hb)
theorem xgk {listed:Array Bool}{i:Nat}(hd:xoD md ops listed):∀ (n k:Nat),xoR md ops i n k=true->listed.getD k true=true->listed.getD i true=true
 | 0,k,h,_=>by cases h
 | n+1,k,h,hl=>by
  unfold xoR at h
  split at h
  ·cases h
  ·rename_i o ho;rw[Array.any_eq_true'] at h;obtain⟨e,he,h⟩:=h;simp only[Bool.and_eq_true,Bool.or_eq_true,beq_iff_eq] at h;obtain⟨hb,h⟩:=h;have hl':=hd k o ho hl e he hb
   rcases h with h | h
   ·rw[← h];exact hl'
   ·exact xgk hd n e.on h hl'
theorem xkQ {listed:Array Bool}{i l:Nat}(hd:xoD md ops listed){n:Nat}(h:xoR md ops i n l=true)(hl:l∈Region.ready md ops listed):listed.getD i true=true:=by
 cases n with
 | zero=>cases h
 | succ n=>
  obtain⟨hlun,o,ho,hall⟩:=mem_ready.1 hl;unfold xoR at h;rw[ho] at h;simp only[] at h;rw[Array.any_eq_true'] at h;obtain⟨e,he,h⟩:=h;simp only[Bool.and_eq_true,Bool.or_eq_true,beq_iff_eq] at h;obtain⟨hb,h⟩:=h;have h1:=hall e he hb
  have hl':listed.getD e.on true=true:=by
   rcases Nat.lt_or_ge e.on listed.size with h' | h'
   ·simp[h'] at h1 ⊢;exact h1
   ·simp[Array.getElem?_eq_none h']
  rcases h with h | h
  ·rw[← h];exact hl'
  ·exact xgk hd n e.on h hl'
def xln (md:Region.Mode)(ops:Array Oper)(late:List Nat)(i:Nat):Bool:=late.all fun l=>xoR md ops i ops.size l
theorem xh2 {late:List Nat}{listed:Array Bool}{i j:Nat}(h:xln md ops late i=true)(hd:xoD md ops listed)(hi:i∈Region.ready md ops listed)(hj:j∈Region.ready md ops listed):late.contains j=false:=by
 by_cases hc:late.contains j=true
 ·exfalso;unfold xln at h;rw[List.all_eq_true] at h;have h1:=xkQ hd (h j (by simpa using hc)) hj
  have h0:=(mem_ready.1 hi).1
  rcases Nat.lt_or_ge i listed.size with h' | h'
  ·simp[h'] at h0 h1;rw[h0] at h1;cases h1
  ·simp[Array.getElem?_eq_none h'] at h0
 ·simpa using hc
theorem xhu {late:List Nat}{i:Nat}{oi:Oper}{v:Value}(hlate:xln md ops late i=true)(hi:ops[i]?=some oi)(hsel:∀ (j:Nat) (o:Oper) cs b,ops[j]?=some o->o.op≠.select cs b)
  (hQ:∀ c a w,Q (.panic c) (a.put oi.dst v) w->Q (.panic c) a w) :
  ∀ (fuel:Nat) (listed:Array Bool) (a:Act) (w:World),xoD md ops listed->
   (∀ j oj,ops[j]?=some oj->j≠i->listed.getD j true=false->(∀ e∈oj.after,Region.binds md e=true->e.on≠i)->oi.apart ops oj=true)->
   i∈Region.ready md ops listed->YieldsIf P ops S oi v a->S w->
   xbF P md ops Q S late fuel (listed.setIfInBounds i true) (a.put oi.dst v) w->xbF P md ops Q S late (fuel+1) listed a w:=by
 intro fuel
 induction fuel with
 | zero=>
  intro listed a w _ _ hr hy hS H;refine⟨fun h=>(by rw[h] at hr;cases hr),fun j hj=>?_⟩
  by_cases hji:j=i
  ·subst hji;exact hy.wpOp hi hS ⟨fun _=>hS,H⟩
  ·have:=ready_mono hj hji;rw[H.1] at this
   cases this
 | succ fuel ih=>
  intro listed a w hd hfree hr hy hS H;refine⟨fun h=>(by rw[h] at hr;cases hr),fun j hj=>?_⟩
  by_cases hji:j=i
  ·subst hji;exact hy.wpOp hi hS ⟨fun _=>hS,H⟩
  ·have hjL:late.contains j=false:=xh2 hlate hd hr hj;have h1:=H.2 j (ready_mono hj hji);obtain⟨hjun,oj,hoj,hall⟩:=mem_ready.1 hj
   have hnot:∀ e∈oj.after,Region.binds md e=true->e.on≠i:=fun e he hb heq=>by
    have h1:=hall e he hb;have h0:=(mem_ready.1 hr).1;rw[heq] at h1
    rcases Nat.lt_or_ge i listed.size with h' | h'
    ·simp[h'] at h0 h1;rw[h0] at h1;cases h1
    ·simp[Array.getElem?_eq_none h'] at h1
   have h2:=wpOp_putIf hoj (hfree j oj hoj hji hjun hnot) (fun cs b=>hsel i oi cs b hi) (fun cs b=>hsel j oj cs b hoj) hQ hy h1
   have hfree':∀ k ok,ops[k]?=some ok->k≠i->(listed.setIfInBounds j true).getD k true=false->
     (∀ e∈ok.after,Region.binds md e=true->e.on≠i)->oi.apart ops ok=true:=fun k ok hk hki hun hno=>by
    refine hfree k ok hk hki ?_ hno
    by_cases hjk:j=k
    ·subst hjk;exact hjun
    ·rw[getD_set_ne true hjk] at hun;exact hun
   refine wpOp_mono (fun a' w' h3=>⟨fun _=>h3.2.1 hjL,ih (listed.setIfInBounds j true) a' w' (xj8 hd hj) hfree' (ready_mono hr (Ne.symm hji)) h3.1 (h3.2.1 hjL) ?_⟩) h2
   rw[Array.setIfInBounds_comm _ _ hji]
   exact h3.2.2
theorem xdG {late:List Nat}{i:Nat}{oi:Oper}{v:Value}{fuel:Nat}{listed:Array Bool}{a:Act}{w:World}(hlate:xln md ops late i=true)(hd:xmc md ops listed=true)(hi:ops[i]?=some oi)
  (hs:Region.noSelect ops=true) (hf:Region.free md ops listed i=true) (hr:(Region.ready md ops listed).contains i=true)
  (hQ:∀ c a w,Q (.panic c) (a.put oi.dst v) w->Q (.panic c) a w) (hy:YieldsIf P ops S oi v a) (hS:S w)
  (h:xbF P md ops Q S late fuel (listed.setIfInBounds i true) (a.put oi.dst v) w):xbF P md ops Q S late (fuel+1) listed a w:=
 xhu hlate hi (Region.noSelect_spec hs) hQ fuel listed a w (xj2 hd) (Region.free_spec hi hf) (by simpa using hr) hy hS h
theorem xaw {late:List Nat}{listed:Array Bool}{a:Act}{w:World}(hr:Region.ready md ops listed=[])(h:Q .normal a w):∀ fuel,xbF P md ops Q S late fuel listed a w
 | 0=>⟨hr,h⟩
 | _+1=>⟨fun _=>h,by rw[hr];simp⟩
theorem xab {late:List Nat}{rs:List Nat}{fuel:Nat}{listed:Array Bool}{a:Act}{w:World}(hr:Region.ready md ops listed=rs)(hne:rs≠[])
  (h:∀ i∈rs,wpOp P ops Q i (fun a' w'=>(late.contains i=false->S w')/\xbF P md ops Q S late fuel (listed.setIfInBounds i true) a' w') a w):xbF P md ops Q S late (fuel+1) listed a w:=
 ⟨fun h0=>absurd (hr ▸ h0) hne,hr ▸ h⟩
theorem xaL {late:List Nat}{i:Nat}{fuel:Nat}{listed:Array Bool}{a:Act}{w:World}{o:Oper}(ho:ops[i]?=some o)
  (h:∀ K':Act->World->Prop,(∀ a w,(late.contains i=false->S w)->xbF P md ops Q S late fuel (listed.setIfInBounds i true) a w->K' a w)->if Region.wanted o (yielded ops a.tmps)=true then Oper.wp P o a w K' Q else K' (a.put o.dst undef) w) :
  wpOp P ops Q i (fun a' w'=>(late.contains i=false->S w')/\xbF P md ops Q S late fuel (listed.setIfInBounds i true) a' w') a w:=
 wpOp_step ho (fun K' hK=>h K' (fun a w hS hW=>hK a w ⟨hS,hW⟩))
theorem xfJ {S':World->Prop}{late late':List Nat}:∀ (fuel:Nat) (listed:Array Bool) (a:Act) (w:World),(∀ i,i∈Region.ready md ops listed->late.contains i=true)->(∀ i,late.contains i=false->listed.getD i true=true)->
  xbF P md ops Q S' late' fuel listed a w->xbF P md ops Q S late fuel listed a w
 | 0,_,_,_,_,_,h=>h
 | fuel+1,listed,a,w,h0,h1,h=>⟨h.1,fun i hi=>wpOp_mono (fun a' w' h'=>⟨fun hl=>(by rw[h0 i hi] at hl;cases hl),xfJ fuel _ a' w' (fun j hj=>by
   by_cases hc:late.contains j=true
   ·exact hc
   ·exfalso;have:=h1 j (by simpa using hc)
    have h2:=(mem_ready.1 hj).1;have h3:=xeb (i:=i) this
    rcases Nat.lt_or_ge j (listed.setIfInBounds i true).size with h' | h'
    ·simp only[Array.getD_eq_getD_getElem?,Array.getElem?_eq_getElem h',Option.getD_some] at h2 h3;rw[h2] at h3;cases h3
    ·rw[Array.getD_eq_getD_getElem?,Array.getElem?_eq_none h'] at h2;cases h2) (fun j hj=>xeb (h1 j hj)) h'.2⟩) (h.2 i hi)⟩
def xpi (ops:Array Oper)(late:List Nat)(listed:Array Bool):Bool:=listed.size == ops.size && (List.range ops.size).all fun i=>late.contains i || listed.getD i true
theorem xct {S':World->Prop}{late late':List Nat}{fuel:Nat}{listed:Array Bool}{a:Act}{w:World}(ho:xpi ops late listed=true)(h:xbF P md ops Q S' late' fuel listed a w):xbF P md ops Q S late fuel listed a w:=by
 unfold xpi at ho;simp only[Bool.and_eq_true,beq_iff_eq,List.all_eq_true,List.mem_range,Bool.or_eq_true] at ho
 have h1:∀ i,late.contains i=false->listed.getD i true=true:=fun i hi=>by
  rcases Nat.lt_or_ge i ops.size with h' | h'
  ·rcases ho.2 i h' with h'' | h''
   ·rw[hi] at h'';cases h''
   ·exact h''
  ·rw[Array.getD_eq_getD_getElem?,Array.getElem?_eq_none (by omega)];rfl
 refine xfJ fuel listed a w (fun i hi=>?_) h1 h
 by_cases hc:late.contains i=true
 ·exact hc
 ·exfalso;have h2:=(mem_ready.1 hi).1;have h3:=h1 i (by simpa using hc)
  rcases Nat.lt_or_ge i listed.size with h' | h'
  ·simp only[Array.getD_eq_getD_getElem?,Array.getElem?_eq_getElem h',Option.getD_some] at h2 h3;rw[h2] at h3;cases h3
  ·rw[Array.getD_eq_getD_getElem?,Array.getElem?_eq_none h'] at h2;cases h2
theorem xat {id:Nat}{a:Act}{w:World}(late:List Nat)(hm:P.follows .mixedOrders=true)
  (h:xbF P .any ops Q S late ops.size (Array.replicate ops.size false) a w.drew):(Code.region id ops true).wp P Q a w:=
 wp_region_any hm (xdS _ _ _ _ h)
end
section
variable {P:Program} {md:Region.Mode} {ops:Array Oper} {Q:Exit->Act->World->Prop} {S:World->Prop}
def okT (md:Region.Mode)(ops:Array Oper)(late:List Nat)(listed:Array Bool)(i:Nat):Bool:=xln md ops late i && (xmc md ops listed && (Region.noSelect ops && (Region.free md ops listed i && (Region.ready md ops listed).contains i)))
theorem tk {late:List Nat}(i:Nat)(oi:Oper)(v:Value){fuel:Nat}{listed:Array Bool}{a:Act}{w:World}(hi:ops[i]?=some oi)(hS:S w)(hQ:∀ c a w,Q (.panic c) (a.put oi.dst v) w->Q (.panic c) a w)(hw:Region.wanted oi (yielded ops a.tmps)=true)
  (ho:okT md ops late listed i=true) (hy:∀ w,S w->(execOp a.eval oi).run P w=.ok (.value v) w) (h:xbF P md ops Q S late fuel (listed.setIfInBounds i true) (a.put oi.dst v) w):xbF P md ops Q S late (fuel+1) listed a w:=by
 unfold okT at ho;simp only[Bool.and_eq_true] at ho
 exact xdG ho.1 ho.2.1 hi ho.2.2.1 ho.2.2.2.1 ho.2.2.2.2 hQ (Or.inl ⟨hw,hy⟩) hS h
def AllR (p:Nat->Prop):List Nat->Prop
 | []=>True
 | i :: l=>p i/\AllR p l
theorem AllR.all {p:Nat->Prop}:∀ {l:List Nat},AllR p l->∀ i∈l,p i
 | [],_,i,h=>by simp at h
 | k :: l,h,i,hi=>by
  rcases List.mem_cons.1 hi with rfl | hi
  ·exact h.1
  ·exact AllR.all h.2 i hi
theorem rdy {late:List Nat}(rs:List Nat){fuel:Nat}{listed:Array Bool}{a:Act}{w:World}(hne:rs.isEmpty=false)(hr:Region.ready md ops listed=rs)
  (h:AllR (fun i=>wpOp P ops Q i (fun a' w'=>(late.contains i=false->S w')/\xbF P md ops Q S late fuel (listed.setIfInBounds i true) a' w') a w) rs):xbF P md ops Q S late (fuel+1) listed a w:=
 xab hr (by intro e;rw[e] at hne;cases hne) h.all
end
theorem xb9 {P:Program}{ops:Array Oper}{o:Oper}{a:Act}{w w':World}{K:Act->World->Prop}{Q:Exit->Act->World->Prop}{E:Prop}(hg:o.guard=none)(s x:Operand)(T:TypeId)(hop:o.op=Op.call { callee:=Callee.builtin Builtin.append,args:=#[s,x],argTypes:=#[T,T] })
  (vs vx v':Value) (hs:a.eval s=vs) (hx:a.eval x=vx) (hrun:(Builtin.append_ #[T,T] o.type #[vs,vx]).run P w=.ok v' w') (hK:K (a.put o.dst v') w'):if Region.wanted o (yielded ops a.tmps)=true then Oper.wp P o a w K Q else E:=by
 have hw:Region.wanted o (yielded ops a.tmps)=true:=by simp[Region.wanted,hg]
 rw[if_pos hw];unfold Oper.wp
 simp[execOp,hop,resolve,invoke,builtin,hs,hx,hrun,Result.andThen]
 exact hK
theorem xbB {w:World}{b:Nat}{cur:Array Value}{t:TypeId}(h:w.heap[b]?=some (.cells cur t (0,0)))(o:Nat):w.frozen? ⟨b,o,none⟩=false:=by unfold World.frozen?;simp[h]
theorem xa0 {P:Program}{ops:Array Oper}{o:Oper}{a:Act}{w:World}{K:Act->World->Prop}{Q:Exit->Act->World->Prop}{E:Prop}(hg:o.guard=none)(fn:Nat)(cal:Operand)(args:Array Operand)(tys:Array TypeId)(hop:o.op=Op.call { callee:=Callee.value cal,args:=args,argTypes:=tys })
  (caps:Array Value) (hcal:a.eval cal=.func (.func fn) #[] caps) (vs:Array Value) (hvs:args.map a.eval=vs) (hcf:(callFunc fn (vs++caps)).run P w=.ok (.enter fn (vs++caps)) w) (hc:Calls P fn (vs++caps) w fun e w'=>∃ v,e=.returned v/\K (a.put o.dst v) w'):if Region.wanted o (yielded ops a.tmps)=true then Oper.wp P o a w K Q else E:=by
 have hw:Region.wanted o (yielded ops a.tmps)=true:=by simp[Region.wanted,hg]
 rw[if_pos hw];unfold Oper.wp
 have hr:(execOp a.eval o).run P w=.ok (.enter fn (vs++caps)) w:=by
  simp[execOp,hop,resolve,invoke,hcal,hvs,Deferred.ofValue]
  exact hcf
 rw[hr,Oper.upon_enter];refine hc.mono ?_;rintro e w' ⟨v,rfl,h⟩
 exact h
theorem xdH {fn:Nat}{f:Func}(hf:Tryz.prog.funcs[fn]?=some f)(hn:(f.name == "runtime.NumGoroutine")=false)(hb:f.body.isSome=true)(args:Array Value)(w:World):(callFunc fn args).run Tryz.prog w=.ok (.enter fn args) w:=by
 have h1:¬ f.name = "runtime.NumGoroutine" := by simpa using hn
 have h2:¬ f.body=none:=by intro h;rw[h] at hb;cases hb
 simp[callFunc,hf,h1,h2]
theorem xkb {P:Program}{ops:Array Oper}{o:Oper}{a:Act}{w:World}{K:Act->World->Prop}{Q:Exit->Act->World->Prop}{E:Prop}(hw:Region.wanted o (yielded ops a.tmps)=true)(fn:Nat)(cal:Operand)(args:Array Operand)(tys:Array TypeId)(hop:o.op=Op.call { callee:=Callee.value cal,args:=args,argTypes:=tys })
  (caps:Array Value) (hcal:a.eval cal=.func (.func fn) #[] caps) (vs:Array Value) (hvs:args.map a.eval=vs) (hcf:(callFunc fn (vs++caps)).run P w=.ok (.enter fn (vs++caps)) w) (hc:Calls P fn (vs++caps) w fun e w'=>∃ v,e=.returned v/\K (a.put o.dst v) w'):if Region.wanted o (yielded ops a.tmps)=true then Oper.wp P o a w K Q else E:=by
 rw[if_pos hw];unfold Oper.wp
 have hr:(execOp a.eval o).run P w=.ok (.enter fn (vs++caps)) w:=by
  simp[execOp,hop,resolve,invoke,hcal,hvs,Deferred.ofValue]
  exact hcf
 rw[hr,Oper.upon_enter];refine hc.mono ?_;rintro e w' ⟨v,rfl,h⟩
 exact h
theorem xek {α:Type}{E:Lay α}{sz bytes:Nat}{P:Nat->Prop}{w:World}{v:Value}{xs:List α}(h:IsRow E sz bytes P w v xs)(hE:∀ f x,E P w f x->E (fun b=>b<w.heap.size) w f x/\∃ u,f 0=some u):IsRow E sz bytes (fun b=>b<w.heap.size) w v xs:=by
 obtain⟨ad,cap,h1,h2,h3,h4,h5⟩:=h;refine⟨ad,cap,h1,h2,h3,h4,fun i x hx=>?_⟩
 obtain⟨b,o,e1,e2,e3⟩:=h5 i x hx;obtain⟨k1,u,k2⟩:=hE _ _ e3
 exact⟨b,o,e1,World.block_lt_of_cell? w _ k2,k1⟩
theorem xis {P:Nat->Prop}{w:World}{v:Value}{xs:List QI}(h:xaK P w v xs):xaK (fun b=>b<w.heap.size) w v xs:=xek h fun f x hx=>⟨hx,_,hx.1⟩
theorem xg6 {P:Nat->Prop}{w:World}{v:Value}{xs:List QM}(h:xbj P w v xs):xbj (fun b=>b<w.heap.size) w v xs:=xek h fun f x hx=>by
 obtain⟨h0,h1,h2,h3,h4,c,h5,h6⟩:=hx
 exact⟨⟨h0,h1,h2,h3,h4,c,h5,xis h6⟩,_,h0⟩
theorem xdy {P:Nat->Prop}{w:World}{v:Value}{xs:List QC}(h:xaf P w v xs):xaf (fun b=>b<w.heap.size) w v xs:=xek h fun f x hx=>by
 obtain⟨h0,h1,h2,h3,c,h5,h6⟩:=hx
 exact⟨⟨h0,h1,h2,h3,c,h5,xg6 h6⟩,_,h0⟩
theorem xcX {P:Program}{md:Region.Mode}{ops:Array Oper}{Q:Exit->Act->World->Prop}{S:World->Prop}{late late':List Nat}:∀ (fuel:Nat) (listed:Array Bool) (a:Act) (w:World),xbF P md ops Q S late fuel listed a w->xbF P md ops Q (fun _=>True) late' fuel listed a w
 | 0,_,_,_,h=>h
 | fuel+1,_,_,_,h=>⟨h.1,fun i hi=>wpOp_mono (fun a' w' h'=>⟨fun _=>trivial,xcX fuel _ a' w' h'.2⟩) (h.2 i hi)⟩
theorem cf26 (args:Array Value)(w:World):(callFunc 43 args).run Tryz.prog w=.ok (.enter 43 args) w:=xdH Tryz.func43 (by kernel_rfl) (by kernel_rfl) args w
theorem cf27 (args:Array Value)(w:World):(callFunc 44 args).run Tryz.prog w=.ok (.enter 44 args) w:=xdH Tryz.func44 (by kernel_rfl) (by kernel_rfl) args w
theorem cf28 (args:Array Value)(w:World):(callFunc 45 args).run Tryz.prog w=.ok (.enter 45 args) w:=xdH Tryz.func45 (by kernel_rfl) (by kernel_rfl) args w
theorem cf45 (args:Array Value)(w:World):(callFunc 38 args).run Tryz.prog w=.ok (.enter 38 args) w:=xdH Tryz.func38 (by kernel_rfl) (by kernel_rfl) args w
theorem cf46 (args:Array Value)(w:World):(callFunc 64 args).run Tryz.prog w=.ok (.enter 64 args) w:=xdH Tryz.func64 (by kernel_rfl) (by kernel_rfl) args w
theorem xoj {U:World}{b o b' o':Nat}{v u:Value}(h:U.cell? ⟨b,o,none⟩=some v)(hne:b≠b'):(U.setCell ⟨b',o',none⟩ u).cell? ⟨b,o,none⟩=some v:=(World.cell?_setCell_far _ _ _ _ (by simp;omega)).trans h
abbrev xj9 (U:World)(b:Nat)(u0 u1 u2 u3 u4:Value):World:=((((U.setCell ⟨b,0,none⟩ u0).setCell ⟨b,1,none⟩ u1).setCell ⟨b,2,none⟩ u2).setCell ⟨b,3,none⟩ u3).setCell ⟨b,4,none⟩ u4
theorem xcI {U:World}{b o b':Nat}{v u0 u1 u2 u3 u4:Value}(h:U.cell? ⟨b,o,none⟩=some v)(hne:b≠b'):(xj9 U b' u0 u1 u2 u3 u4).cell? ⟨b,o,none⟩=some v:=xoj (xoj (xoj (xoj (xoj h hne) hne) hne) hne) hne
theorem xpI {U:World}{b b':Nat}{u0 u1 u2 u3 u4:Value}(hne:b≠b'):(xj9 U b' u0 u1 u2 u3 u4).heap[b]?=U.heap[b]?:=by
 rw[xac hne,xac hne,xac hne,xac hne,xac hne]
theorem xpw {w U:World}{lo b:Nat}{u0 u1 u2 u3 u4:Value}(h:Below lo w U)(hb:lo<=b):Below lo w (xj9 U b u0 u1 u2 u3 u4):=((((h.setCell hb _).setCell hb _).setCell hb _).setCell hb _).setCell hb _
end Go.Proofs.YtaodadfahifbpaaGreat
