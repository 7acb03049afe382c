/- A part. -/
import Derived.Test.YtbafokihegegiaaGreatDoorM9
namespace Go.Proofs.YtbafokihegegiaaGreatDoor
open Go.ChangeShapes Go.WideShapes Go.ChangeAt Go.RowKit
set_option linter.unusedSimpArgs false
set_option linter.unusedVariables false
set_option maxHeartbeats 8000000
abbrev ins (op a b c:Int):QI:=⟨op,a,b,c,⟨#[]⟩⟩
def xaw (self args temps first behind:Int)(x:QI):QI:=
 if x.op=1 then ins 3 self 0 0
 else if x.op=2 then ins 3 (args+x.a) 0 0
 else if x.op=3\/x.op=11 then ins x.op (temps+x.a) 0 0
 else if x.op=4 then ins 19 self x.a 0
 else if x.op=12 then ins 20 self x.a 0
 else if x.op=15\/x.op=16 then ins x.op (first+x.a) 0 0
 else if x.op=17 then ins 15 behind 0 0
 else x
def xdh (args:Int):Nat->List QI
 | 0=>[]
 | n+1=>ins 11 (args+n) 0 0 :: xdh args n
def xcF (temps:Int)(n:Nat):List QI:=(List.range n).flatMap fun k=>[ins 6 0 0 0,ins 11 (temps+(k:Nat)) 0 0]
theorem xel (temps:Int)(n:Nat):xcF temps (n+1)=xcF temps n++[ins 6 0 0 0,ins 11 (temps+(n:Nat)) 0 0]:=by
 unfold xcF;rw[List.range_succ,List.flatMap_append];simp
theorem xdT (temps:Int):∀ n,(xcF temps n).length=2*n
 | 0=>rfl
 | n+1=>by rw[xel,List.length_append,xdT temps n];simp;omega
theorem xgM (args:Int):∀ n,(xdh args n).length=n
 | 0=>rfl
 | n+1=>by simp[xdh,xgM args n]
def xf7 (leaf:QM)(guard:QI)(self:Int):List QI:=[guard,ins 21 0 0 0]++xdh (self+1) leaf.args.toNat++[ins 11 self 0 0]++xcF (self+1+leaf.args) leaf.temps.toNat
def xbE (leaf:QM)(n:Int):Int:=n+3+leaf.args+2*leaf.temps
def xbC (leaf:QM)(guard:QI)(self n:Int):List QI:=xf7 leaf guard self++leaf.code.map (xaw self (self+1) (self+1+leaf.args) (xbE leaf n) (xbE leaf n+leaf.code.length))
theorem xnM (leaf:QM)(guard:QI)(self:Int):(xf7 leaf guard self).length=3+leaf.args.toNat+2*leaf.temps.toNat:=by
 unfold xf7;simp[xgM,xdT];omega
theorem xbK (leaf:QM)(guard:QI)(self n:Int):(xbC leaf guard self n).length=3+leaf.args.toNat+2*leaf.temps.toNat+leaf.code.length:=by
 unfold xbC;rw[List.length_append,xnM];simp
def xes (xs:List QC)(k:Int)(name:ByteArray):Option QM:=if (xak xs k name).2<0 then none else (xs[(xak xs k name).1.toNat]?).bind fun x=>x.mz[(xak xs k name).2.toNat]?
def xaY (xs:List QC)(sites:List Int)(at':Nat)(x:QI):Option QM:=
 if x.op=14/\0<=sites.getD at' (-1) then
  match xes xs (sites.getD at' (-1)) x.name with
  | none=>none
  | some m=>if m.args=x.a/\xdw m=true then some m else none
 else none
def xgP (n temps:Int)(leaf:QM)(left:Int):Bool:=decide (n+3+leaf.args+2*leaf.temps+leaf.code.length+left<=240/\temps+1+leaf.args+leaf.temps<=40)
def xbn (x:QI)(at':Int):QI:=if x.op=14 then { x with c:=at' } else x
def xee (xs:List QC)(sites:List Int)(len:Nat)(n temps:Int)(at':Nat)(x:QI):Option QM:=
 match xaY xs sites at' x with
 | none=>none
 | some leaf=>if xgP n temps leaf ((len:Int)-at')=true then some leaf else none
structure Bd where
 code:List QI
 temps:Int
 begins:List Int
 pieces:Nat
def xdP (xs:List QC)(sites:List Int)(len:Nat)(s:Bd)(at':Nat)(x:QI):Bd:=
 match xee xs sites len s.code.length s.temps at' x with
 | none=>⟨s.code++[xbn x at'],s.temps,s.begins++[(s.code.length:Int)],s.pieces⟩
 | some leaf=>⟨s.code++xbC leaf (ins 18 (sites.getD at' (-1)) leaf.args at') s.temps s.code.length,s.temps+1+leaf.args+leaf.temps,s.begins++[(s.code.length:Int)],s.pieces+1⟩
def xah (xs:List QC)(sites:List Int)(m:QM):Nat->Bd
 | 0=>⟨[],m.temps,[],0⟩
 | k+1=>match m.code[k]? with
  | none=>xah xs sites m k
  | some x=>xdP xs sites m.code.length (xah xs sites m k) k x
theorem xbm {xs:List QC}{sites:List Int}{m:QM}{k:Nat}{x:QI}(h:m.code[k]?=some x):xah xs sites m (k+1)=xdP xs sites m.code.length (xah xs sites m k) k x:=by
 rw[xah,h]
theorem xeN (xs:List QC)(sites:List Int)(len:Nat)(s:Bd)(k:Nat)(x:QI):(xdP xs sites len s k x).begins=s.begins++[(s.code.length:Int)]:=by
 unfold xdP;split<;>rfl
theorem xbM {xs:List QC}{sites:List Int}{m:QM}:∀ {k:Nat},k<=m.code.length->(xah xs sites m k).begins.length=k
 | 0,_=>rfl
 | k+1,h=>by
  rw[xbm (List.getElem?_eq_getElem (by omega)),xeN,List.length_append,xbM (by omega)];rfl
def xeO (begins:List Int)(x:QI):Option Int:=if (x.op=15\/x.op=16)/\0<=x.a then begins[x.a.toNat]? else none
def xdQ (begins:List Int)(plain:List QI)(code:List QI):Nat->List QI
 | 0=>code
 | k+1=>match plain[k]?,begins[k]? with
  | some x,some b=>match xeO begins x with
   | some t=>(xdQ begins plain code k).modify b.toNat fun y=>{ y with a:=t }
   | none=>xdQ begins plain code k
  | _,_=>xdQ begins plain code k
theorem xdE (begins:List Int)(plain code:List QI):∀ k,(xdQ begins plain code k).length=code.length
 | 0=>rfl
 | k+1=>by
  unfold xdQ
  split
  ·split
   ·rw[List.length_modify,xdE begins plain code k]
   ·exact xdE begins plain code k
  ·exact xdE begins plain code k
structure Fst where
 cls:Int
 name:ByteArray
 ez:Int
 temps:Int
 code:List QI
def xdK:Fst:=⟨0,⟨#[]⟩,0,0,[]⟩
def xcr (X:QW)(c:Int)(m:QM)(sites:List Int):Fst × Bool:=
 let s:=xah X.cz sites m m.code.length
 if s.pieces=0 then (xdK,false) else (⟨c,m.name,X.ez,s.temps,xdQ s.begins m.code s.code m.code.length⟩,true)
set_option maxRecDepth 8000
theorem xcE {p:Prop}(h:p):Hid p:=h
def xdA:Int->List Int->Bool
 | _,[]=>true
 | m,n :: r=>if n<0\/m<n then false else xdA (m-n) r
theorem xpS {α:Type}{xs:List α}{j:Nat}{x:α}(h:xs[j]?=some x):xs.drop j=x :: xs.drop (j+1):=by
 obtain⟨hj,rfl⟩:=List.getElem?_eq_some_iff.1 h
 exact List.drop_eq_getElem_cons hj
theorem xlC {P:Nat->Prop}(ps:List Int)(v:Value)(m:Int)(w:World)(hm:0<=m/\m<=1000)(h:xfp P w v ps):Calls Tryz.prog 199 #[.int .i64 m,v] w fun e w'=>e=.returned (.bool (xdA m ps))/\w'=w:=by
 obtain⟨ad,cap,rfl,hl,hcap,hby,hrow⟩:=h;go_enter Tryz.func199,Tryz.ntmps199;go_wp2
 go_loopg [0,9] ps.length (fun g mv c wr=>∃ (j:Nat) (mm:Int),j+g=ps.length/\c=.int .i64 j/\mv=.int .i64 mm/\(0<=mm/\mm<=1000)/\Hid (xdA m ps=xdA mm (ps.drop j))/\wr=w)
 case atStart=>exact⟨0,m,by omega,rfl,rfl,hm,rfl,rfl⟩
 case round=>
  obtain⟨j,mm,hj,rfl,rfl,⟨hm0,hm1⟩,HF,rfl⟩:=hrel
  by_cases hlt:j<ps.length
  ·have hx:ps[j]?=some ps[j]:=by simp[hlt]
   have HX:=xcE hx;obtain⟨b,o,rfl,-,y0⟩:=hrow j ps[j] hx;generalize ps[j]=x at *;have hj1:(j:Int)<(ps.length:Int):=by omega
   have hj0:(0:Int)<=(j:Int):=by omega
   replace y0:wr.cell? ⟨b,o+j,none⟩=some (.int .i64 x):=by simpa [xqf] using y0
   clear hrow hx;have HS:Hid (xdA m ps=if x<0\/mm<x then false else xdA (mm-x) (ps.drop (j+1))):=by show _=_;rw[HF.out,xpS HX.out];rfl
   by_cases h0:x<0
   ·have hd:decide (x<0)=true:=by simpa using h0
    have HR:Hid (xdA m ps=false):=by show _=_;rw[HS.out,if_pos (Or.inl h0)]
    clear h0;go_wp2
    go_ret
    exact⟨xbg HR.out.symm,rfl⟩
   ·have hd:decide (x<0)=false:=by simpa using h0
    by_cases h1:mm<x
    ·have hd1:decide (mm<x)=true:=by simpa using h1
     have HR:Hid (xdA m ps=false):=by show _=_;rw[HS.out,if_pos (Or.inr h1)]
     clear h0 h1;go_wp2
     go_ret
     exact⟨xbg HR.out.symm,rfl⟩
    ·have hd1:decide (mm<x)=false:=by simpa using h1
     have HR:Hid (xdA m ps=xdA (mm-x) (ps.drop (j+1))):=by show _=_;rw[HS.out,if_neg (by omega)]
     have hw:IntKind.i64.wrap (mm-x)=mm-x:=xal (by omega) (by omega)
     have HM:Hid (0<=mm-x/\mm-x<=1000):=by show _/\_;omega
     clear h0 h1;go_wp2
     go_roundg (gk-1)
     case measure=>omega
     case rel=>exact⟨j+1,mm-x,by omega,by go_num,rfl,HM.out,HR.out,rfl⟩
  ·obtain rfl:j=ps.length:=by omega
   have HR:Hid (xdA m ps=true):=by show _=_;rw[HF.out,List.drop_length];rfl
   go_wp2
   go_ret
   exact⟨xbg HR.out.symm,rfl⟩
theorem xgZ (x:QI)(n:Int)(w:World):Calls Tryz.prog 151 #[IV x,.int .i64 n] w fun e w'=>e=.returned (IV (xbn x n))/\Below w.heap.size w w':=by
 have hb2:=xbp w (.cells #[.int .i64 x.op,.int .i64 x.a,.int .i64 x.b,.int .i64 x.c,.string x.name] 69) (.cells #[.int .i64 0,.int .i64 0,.int .i64 0,.int .i64 0,.string ⟨#[]⟩] 69)
 by_cases h:x.op=14
 ·have hd:(x.op == 14)=true:=by simpa using h
  have HS:Hid (xbn x n={ x with c:=n }):=by show _=_;unfold xbn;rw[if_pos h]
  clear h;go_enter Tryz.func151,Tryz.ntmps151;go_wp2;refine bodyPost_ret (v:=IV { x with c:=n }) ?_ rfl ⟨by rw[HS.out],?_⟩
  ·simp[results,Tryz.results151,go_sem]
  ·exact xbp _ _ _
 ·have hd:(x.op == 14)=false:=by simpa using h
  have HS:Hid (xbn x n=x):=by show _=_;unfold xbn;rw[if_neg h]
  clear h;go_enter Tryz.func151,Tryz.ntmps151;go_wp2;refine bodyPost_ret (v:=IV x) ?_ rfl ⟨by rw[HS.out],?_⟩
  ·simp[results,Tryz.results151,go_sem]
  ·exact xbp _ _ _
abbrev PlV (self args temps first behind:Int):Value:=.agg #[.int .i64 self,.int .i64 args,.int .i64 temps,.int .i64 first,.int .i64 behind]
abbrev FsV (f:Fst)(kv:Value):Value:=.agg #[.int .i64 f.cls,.string f.name,.int .i64 f.ez,.int .i64 f.temps,kv]
theorem xll (self args temps first behind:Int)(x:QI)(w:World)(h1:0<=args/\args<=1000)(h2:0<=temps/\temps<=1000)(h3:0<=first/\first<=1000)(ha:(x.op=2\/x.op=3\/x.op=11\/x.op=15\/x.op=16)->0<=x.a/\x.a<=1000) :
  Calls Tryz.prog 200 #[PlV self args temps first behind,IV x] w fun e w'=>e=.returned (IV (xaw self args temps first behind x))/\Below w.heap.size w w':=by
 obtain⟨y,HS⟩:∃ y,Hid (xaw self args temps first behind x=y):=⟨_,rfl⟩
 have hb3:=fun (u:Array Value)=>xeQ w (.cells #[.int .i64 self,.int .i64 args,.int .i64 temps,.int .i64 first,.int .i64 behind] 228) (.cells #[.int .i64 x.op,.int .i64 x.a,.int .i64 x.b,.int .i64 x.c,.string x.name] 69) (.cells u 69)
 go_enter Tryz.func200,Tryz.ntmps200
 by_cases g1:x.op=1
 ·have hd:(x.op == 1)=true:=by simpa using g1
  have HR:Hid (xaw self args temps first behind x=ins 3 self 0 0):=by show _=_;unfold xaw;rw[if_pos g1]
  clear g1 ha;go_wp2;refine bodyPost_ret (v:=IV (ins 3 self 0 0)) ?_ rfl ⟨by rw[HR.out],hb3 _⟩
  simp[results,Tryz.results200,go_sem]
 have d1:(x.op == 1)=false:=by simpa using g1
 by_cases g2:x.op=2
 ·have hd:(x.op == 2)=true:=by simpa using g2
  have HR:Hid (xaw self args temps first behind x=ins 3 (args+x.a) 0 0):=by show _=_;unfold xaw;rw[if_neg g1,if_pos g2]
  have hw:IntKind.i64.wrap (args+x.a)=args+x.a:=by have:=ha (Or.inl g2);exact xal (by omega) (by omega)
  clear g1 g2 ha;go_wp2;refine bodyPost_ret (v:=IV (ins 3 (args+x.a) 0 0)) ?_ rfl ⟨by rw[HR.out],hb3 _⟩
  simp[results,Tryz.results200,go_sem]
 have d2:(x.op == 2)=false:=by simpa using g2
 by_cases g3:x.op=3
 ·have hd:(x.op == 3)=true:=by simpa using g3
  have HR:Hid (xaw self args temps first behind x=ins x.op (temps+x.a) 0 0):=by show _=_;unfold xaw;rw[if_neg g1,if_neg g2,if_pos (Or.inl g3)]
  have hw:IntKind.i64.wrap (temps+x.a)=temps+x.a:=by have:=ha (Or.inr (Or.inl g3));exact xal (by omega) (by omega)
  clear g1 g2 g3 ha;go_wp2;refine bodyPost_ret (v:=IV (ins x.op (temps+x.a) 0 0)) ?_ rfl ⟨by rw[HR.out],hb3 _⟩
  simp[results,Tryz.results200,go_sem]
 have d3:(x.op == 3)=false:=by simpa using g3
 by_cases g11:x.op=11
 ·have hd:(x.op == 11)=true:=by simpa using g11
  have HR:Hid (xaw self args temps first behind x=ins x.op (temps+x.a) 0 0):=by show _=_;unfold xaw;rw[if_neg g1,if_neg g2,if_pos (Or.inr g11)]
  have hw:IntKind.i64.wrap (temps+x.a)=temps+x.a:=by have:=ha (Or.inr (Or.inr (Or.inl g11)));exact xal (by omega) (by omega)
  clear g1 g2 g3 g11 ha;go_wp2;refine bodyPost_ret (v:=IV (ins x.op (temps+x.a) 0 0)) ?_ rfl ⟨by rw[HR.out],hb3 _⟩
  simp[results,Tryz.results200,go_sem]
 have d11:(x.op == 11)=false:=by simpa using g11
 by_cases g4:x.op=4
 ·have hd:(x.op == 4)=true:=by simpa using g4
  have HR:Hid (xaw self args temps first behind x=ins 19 self x.a 0):=by show _=_;unfold xaw;rw[if_neg g1,if_neg g2,if_neg (by omega),if_pos g4]
  clear g1 g2 g3 g11 g4 ha;go_wp2;refine bodyPost_ret (v:=IV (ins 19 self x.a 0)) ?_ rfl ⟨by rw[HR.out],hb3 _⟩
  simp[results,Tryz.results200,go_sem]
 have d4:(x.op == 4)=false:=by simpa using g4
 by_cases g12:x.op=12
 ·have hd:(x.op == 12)=true:=by simpa using g12
  have HR:Hid (xaw self args temps first behind x=ins 20 self x.a 0):=by show _=_;unfold xaw;rw[if_neg g1,if_neg g2,if_neg (by omega),if_neg g4,if_pos g12]
  clear g1 g2 g3 g11 g4 g12 ha;go_wp2;refine bodyPost_ret (v:=IV (ins 20 self x.a 0)) ?_ rfl ⟨by rw[HR.out],hb3 _⟩
  simp[results,Tryz.results200,go_sem]
 have d12:(x.op == 12)=false:=by simpa using g12
 by_cases g15:x.op=15
 ·have hd:(x.op == 15)=true:=by simpa using g15
  have HR:Hid (xaw self args temps first behind x=ins x.op (first+x.a) 0 0):=by show _=_;unfold xaw;rw[if_neg g1,if_neg g2,if_neg (by omega),if_neg g4,if_neg g12,if_pos (Or.inl g15)]
  have hw:IntKind.i64.wrap (first+x.a)=first+x.a:=by have:=ha (Or.inr (Or.inr (Or.inr (Or.inl g15))));exact xal (by omega) (by omega)
  clear g1 g2 g3 g11 g4 g12 g15 ha;go_wp2;refine bodyPost_ret (v:=IV (ins x.op (first+x.a) 0 0)) ?_ rfl ⟨by rw[HR.out],hb3 _⟩
  simp[results,Tryz.results200,go_sem]
 have d15:(x.op == 15)=false:=by simpa using g15
 by_cases g16:x.op=16
 ·have hd:(x.op == 16)=true:=by simpa using g16
  have HR:Hid (xaw self args temps first behind x=ins x.op (first+x.a) 0 0):=by show _=_;unfold xaw;rw[if_neg g1,if_neg g2,if_neg (by omega),if_neg g4,if_neg g12,if_pos (Or.inr g16)]
  have hw:IntKind.i64.wrap (first+x.a)=first+x.a:=by have:=ha (Or.inr (Or.inr (Or.inr (Or.inr g16))));exact xal (by omega) (by omega)
  clear g1 g2 g3 g11 g4 g12 g15 g16 ha;go_wp2;refine bodyPost_ret (v:=IV (ins x.op (first+x.a) 0 0)) ?_ rfl ⟨by rw[HR.out],hb3 _⟩
  simp[results,Tryz.results200,go_sem]
 have d16:(x.op == 16)=false:=by simpa using g16
 by_cases g17:x.op=17
 ·have hd:(x.op == 17)=true:=by simpa using g17
  have HR:Hid (xaw self args temps first behind x=ins 15 behind 0 0):=by show _=_;unfold xaw;rw[if_neg g1,if_neg g2,if_neg (by omega),if_neg g4,if_neg g12,if_neg (by omega),if_pos g17]
  clear g1 g2 g3 g11 g4 g12 g15 g16 g17 ha;go_wp2;refine bodyPost_ret (v:=IV (ins 15 behind 0 0)) ?_ rfl ⟨by rw[HR.out],hb3 _⟩
  simp[results,Tryz.results200,go_sem]
 have d17:(x.op == 17)=false:=by simpa using g17
 have HR:Hid (xaw self args temps first behind x=x):=by show _=_;unfold xaw;rw[if_neg g1,if_neg g2,if_neg (by omega),if_neg g4,if_neg g12,if_neg (by omega),if_neg g17]
 clear g1 g2 g3 g11 g4 g12 g15 g16 g17 ha;go_wp2;refine bodyPost_ret (v:=IV x) ?_ rfl ⟨by rw[HR.out],hb3 _⟩
 simp[results,Tryz.results200,go_sem]
theorem xfV {w:World}(T ty e:TypeId)(z:Value)(sz bytes:Nat)(hT:Tryz.prog.underlying T=some (.slice e))(hI:(Tryz.prog.info? e).map (fun i=>(i.zero,i.size,i.bytes))=some (some z,sz,bytes))(hzs:z.cells.size=sz)(hsz:0<sz)
  (base n:Nat) (v:Value) (xs:List Value) (hown:ownsAt w base e sz v n xs) (ad:Addr) (k kc:Nat) (hk:0<k) (news:List Value) (hl:news.length=k*sz) (hnews:∀ j u,news[j]?=some u->w.cell? (ad.add j)=some u) (h1:∀ u∈news,u.oneCell'=true) (h63:n+k<=maxLen) (hby:(n+k)*bytes<=140737488355328) (hbase:base<=w.heap.size) :
  ∃ v' w',(Builtin.append_ #[T,T] ty #[v,.slice (some ad) k kc]).run Tryz.prog w=.ok v' w'/\ownsAt w' base e sz v' (n+k) (xs++news)/\(v'.ownBlock=v.ownBlock\/∃ g,v'.ownBlock=some g/\w.heap.size<=g)/\Below base w w'/\(∀ b,b<w.heap.size->some b≠v.ownBlock->w'.heap[b]?=w.heap[b]?):=by
 obtain⟨i0,hi,hz0,hz1,hz2⟩:=xbu hI;obtain⟨hxl,⟨rfl,rfl⟩ | ⟨g,o,cap,cur,rfl,h3,h4,h5,h6,h7,h8⟩⟩:=id hown
 ·obtain⟨v',w',hrun,r1,r2,_⟩:=run_append_own (P:=Tryz.prog) w w.heap.size T ty e i0 z sz bytes hT hi hz0 hz1 hz2 hzs hsz (.slice none 0 0) 0 [] (World.ownsRow_nil w _ e sz) ad k kc news hl hnews h1 h63 hby (qzC _);have hxs:xs=[]:=List.eq_nil_of_length_eq_zero (by simpa using hxl)
  subst hxs;refine⟨v',w',hrun,xe3 (by simpa using r1) hbase,Or.inr ?_,?_,fun b hb hne=>r2.block b hb hne⟩
  ·obtain⟨-,h | ⟨g,c,cur,e,h3,h4,-⟩⟩:=r1
   ·omega
   ·exact⟨g,by rw[e];rfl,h3⟩
  ·exact (Below.refl _ _).grown r2 hbase fun k hk=>by cases hk
 ·by_cases hr:n+k<=cap
  ·have hcs:cur.toList.length=cur.size:=by simp
   have hon:o+n*sz+news.length<=cur.size:=by
    have:(n+k)*sz<=cap*sz:=Nat.mul_le_mul_right _ hr;rw[Nat.add_mul] at this
    omega
   have hrun:=run_append_room_cells (P:=Tryz.prog) w T ty e i0 hT hi g o n cap ad k kc news (by rw[hz1];exact hl) hnews h1 hr (fun j hj=>by rw[hz1,qzB h4];simp;omega) (fun j hj=>by unfold World.frozen?;simp[h4])
   rw[hz1] at hrun;have hrow:=xeb news (o+n*sz) w cur h4 hon;refine⟨_,_,hrun,⟨by rw[List.length_append,hxl,hl,Nat.add_mul],Or.inr ⟨g,o,cap,_,rfl,h3,hrow,hr,h6,?_,?_⟩⟩,Or.inl rfl,?_,fun b hb hne=>xaF (fun e=>hne (by rw[e];rfl)) _ _ _⟩
   ·simp
    omega
   ·rw[← h8]
    apply List.ext_getElem?
    intro i;simp only[List.getElem?_take,List.getElem?_drop,List.getElem?_append,List.length_append,List.length_take,List.length_drop,hcs];have e1:min (o+n*sz) cur.size=o+n*sz:=by omega
    have e2:min (n*sz) (cur.size-o)=n*sz:=by omega
    rw[e1,e2];have e3:(n+k)*sz=n*sz+k*sz:=by rw[Nat.add_mul]
    rw[e3]
    by_cases g1:i<n*sz
    ·simp[g1,show i<n*sz+k*sz by omega,show o+i<o+n*sz by omega,show o+i<o+n*sz+news.length by omega]
    ·by_cases g2:i<n*sz+k*sz
     ·simp[g1,g2,show ¬ (o+i<o+n*sz) by omega,show o+i<o+n*sz+news.length by omega,show o+i-(o+n*sz)=i-n*sz by omega]
     ·simp[g1,g2]
      omega
   ·refine⟨?_,?_,?_,?_,fun k hk=>xaF (by omega) _ _ _⟩
    ·exact (xb6 _ _ _ _).os
    ·exact (xb6 _ _ _ _).tape
    ·exact (xb6 _ _ _ _).output
    ·rw[xbq];exact qzC _
  ·obtain⟨v',w',hrun,r1,r2⟩:=run_append_arg_grows (P:=Tryz.prog) w T ty e i0 z sz bytes hT hi hz0 hz1 hz2 hzs hsz ⟨g,o,none⟩ n cap xs hxl (fun j u hu=>by
    rw[Addr.add_lit,qzB h4];rw[← h8,List.getElem?_take] at hu
    split at hu
    ·rw[List.getElem?_drop] at hu;simpa using hu
    ·cases hu) ad k kc news hl hnews (by omega) h63 hby
   refine⟨v',w',hrun,xe3 r1 hbase,Or.inr ?_,?_,fun b hb hne=>r2.block b hb (by simp)⟩
   ·obtain⟨-,h | ⟨g,c,cur,e,h3,h4,-⟩⟩:=r1
    ·omega
    ·exact⟨g,by rw[e];rfl,h3⟩
   ·exact (Below.refl _ _).grown r2 hbase fun k hk=>by cases hk
theorem xgC {ops:Array Oper}{rest:List Oper}{o:Oper}{a:Act}{w:World}{Q:Exit->Act->World->Prop}(hgd:o.guard=none)(s x:Operand)(T e:TypeId)(z:Value)(sz bytes:Nat)
  (hop:o.op=Op.call { callee:=Callee.builtin Builtin.append,args:=#[s,x],argTypes:=#[T,T] }) (hT:Tryz.prog.underlying T=some (.slice e)) (hI:(Tryz.prog.info? e).map (fun i=>(i.zero,i.size,i.bytes))=some (some z,sz,bytes)) (hzs:z.cells.size=sz) (hsz:0<sz)
  (base n:Nat) (v:Value) (xs:List Value) (hs:a.eval s=v) (hown:ownsAt w base e sz v n xs) (ad:Addr) (k kc:Nat) (hk:0<k) (hx:a.eval x=.slice (some ad) k kc) (news:List Value) (hl:news.length=k*sz) (hnews:∀ j u,news[j]?=some u->w.cell? (ad.add j)=some u) (h1:∀ u∈news,u.oneCell'=true) (h63:n+k<=maxLen) (hby:(n+k)*bytes<=140737488355328) (hbase:base<=w.heap.size)
  (hK:∀ a' cap' w',ownsAt w' base e sz (.slice a' (n+k) cap') (n+k) (xs++news)->((Value.slice a' (n+k) cap').ownBlock=v.ownBlock\/∃ g,(Value.slice a' (n+k) cap').ownBlock=some g/\w.heap.size<=g)->Below base w w'->(∀ b,b<w.heap.size->some b≠v.ownBlock->w'.heap[b]?=w.heap[b]?)->wpList Tryz.prog ops Q rest (a.put o.dst (.slice a' (n+k) cap')) w') :
  wpList Tryz.prog ops Q (o :: rest) a w:=by
 refine wpList_plain hgd fun K hKK=>?_
 obtain⟨v',w',hrun,r1,r2,r3,r4⟩:=xfV T o.type e z sz bytes hT hI hzs hsz base n v xs hown ad k kc hk news hl hnews h1 h63 hby hbase;obtain⟨a',cap',rfl,-⟩:=r1.form;unfold Oper.wp
 simp[execOp,hop,resolve,invoke,builtin,hs,hx,hrun,Result.andThen]
 exact hKK _ _ (hK a' cap' w' r1 r2 r3 r4)
theorem xj6 {α:Type}{E:Lay α}{sz bytes:Nat}(G:Good E sz){t:TypeId}{Q:Nat->Prop}{B n:Nat}{v:Value}{w:World}{cs:List Value}{xs:List α}(hown:ownsAt w B t sz v n cs)(hc:Cells E sz Q w cs xs)(hn:xs.length=n)(hQ:∀ b,B<=b->b<w.heap.size->Q b)(hby:n*bytes<=140737488351232):IsRow E sz bytes Q w v xs:=by
 obtain⟨h0,⟨rfl,h1⟩ | ⟨g,o,cap,cur,rfl,h3,h4,h5,h6,h7,h8⟩⟩:=hown
 ·obtain rfl:=List.eq_nil_of_length_eq_zero (hn.trans h1)
  exact xb9
 ·subst hn;refine⟨_,_,rfl,h5,h6,hby,fun i x hx=>⟨g,o,rfl,hQ _ h3 (xam h4),G.move (hc.2 i x hx) (fun _ h=>h) (.refl _ _) fun k hk v hv=>?_⟩⟩
  rw[← h8,List.getElem?_take] at hv
  split at hv
  ·rw[List.getElem?_drop] at hv;rw[qzB h4,Nat.add_assoc]
   simpa using hv
  ·cases hv
def xbe:List QI->List Value
 | []=>[]
 | x :: r=>.int .i64 x.op :: .int .i64 x.a :: .int .i64 x.b :: .int .i64 x.c :: .string x.name :: xbe r
theorem xdq:∀ q,(xbe q).length=q.length*5
 | []=>rfl
 | p :: q=>by simp[xbe,xdq q];omega
theorem xeY:∀ q r,xbe (q++r)=xbe q++xbe r
 | [],r=>rfl
 | p :: q,r=>by simp[xbe,xeY q r]
theorem xhX:∀ (q:List QI),∀ u∈xbe q,u.oneCell'=true
 | [],u,h=>by simp[xbe] at h
 | p :: q,u,h=>by
  simp only[xbe,List.mem_cons] at h
  rcases h with rfl | rfl | rfl | rfl | rfl | h
  ·rfl
  ·rfl
  ·rfl
  ·rfl
  ·rfl
  ·exact xhX q u h
theorem xhY:∀ {q:List QI} {i:Nat} {x:QI},q[i]?=some x->(xbe q)[i*5]?=some (.int .i64 x.op)/\(xbe q)[i*5+1]?=some (.int .i64 x.a)/\(xbe q)[i*5+2]?=some (.int .i64 x.b)/\(xbe q)[i*5+3]?=some (.int .i64 x.c)/\(xbe q)[i*5+4]?=some (.string x.name)
 | [],i,x,h=>by simp at h
 | p :: q,0,x,h=>by simp at h;subst h;exact⟨rfl,rfl,rfl,rfl,rfl⟩
 | p :: q,i+1,x,h=>by
  have:=xhY (q:=q) (i:=i) (x:=x) (by simpa using h)
  rw[show (i+1)*5=i*5+1+1+1+1+1 by omega]
  exact this
def NmOk (xs:List QI):Prop:=∀ x∈xs,x.name.size<=140737488351232
theorem NmOk.append {xs ys:List QI}(h:NmOk xs)(k:NmOk ys):NmOk (xs++ys):=fun x hx=>by
 rcases List.mem_append.1 hx with h' | h'
 ·exact h x h'
 ·exact k x h'
theorem xf5 {P:Nat->Prop}{w:World}{xs:List QI}(h:NmOk xs):Cells xi7 5 P w (xbe xs) xs:=⟨xdq _,fun i x hx=>by
 obtain⟨h0,h1,h2,h3,h4⟩:=xhY hx
 exact⟨by simpa using h0,h1,h2,h3,h4,h x (List.mem_of_getElem? hx)⟩⟩
theorem xsb {P:Nat->Prop}{w:World}{B:Nat}{v:Value}{xs:List QI}(h:ownsAt w B 69 5 v xs.length (xbe xs))(hn:NmOk xs)(hP:∀ b,B<=b->b<w.heap.size->P b)(hl:xs.length<=100000):xaG P w v xs:=xj6 xaU h (xf5 hn) rfl hP (by omega)
theorem xcI {P:Program}{ops:Array Oper}{o:Oper}{a:Act}{w w':World}{K:Act->World->Prop}{Q:Exit->Act->World->Prop}{E:Prop}(hg:o.guard=none)(s x:Operand)(T:TypeId)(hop:o.op=Op.call { callee:=Callee.builtin Builtin.append,args:=#[s,x],argTypes:=#[T,T] })
  (vs vx v':Value) (hs:a.eval s=vs) (hx:a.eval x=vx) (hrun:(Builtin.append_ #[T,T] o.type #[vs,vx]).run P w=.ok v' w') (hK:K (a.put o.dst v') w'):if Region.wanted o (yielded ops a.tmps)=true then Oper.wp P o a w K Q else E:=by
 have hw:Region.wanted o (yielded ops a.tmps)=true:=by simp[Region.wanted,hg]
 rw[if_pos hw];unfold Oper.wp
 simp[execOp,hop,resolve,invoke,builtin,hs,hx,hrun,Result.andThen]
 exact hK
theorem xb5 {w:World}{b:Nat}{cur:Array Value}{t:TypeId}(h:w.heap[b]?=some (.cells cur t (0,0)))(o:Nat):w.frozen? ⟨b,o,none⟩=false:=by unfold World.frozen?;simp[h]
theorem xa1 {P:Program}{ops:Array Oper}{o:Oper}{a:Act}{w:World}{K:Act->World->Prop}{Q:Exit->Act->World->Prop}{E:Prop}(hg:o.guard=none)(fn:Nat)(cal:Operand)(args:Array Operand)(tys:Array TypeId)(hop:o.op=Op.call { callee:=Callee.value cal,args:=args,argTypes:=tys })
  (caps:Array Value) (hcal:a.eval cal=.func (.func fn) #[] caps) (vs:Array Value) (hvs:args.map a.eval=vs) (hcf:(callFunc fn (vs++caps)).run P w=.ok (.enter fn (vs++caps)) w) (hc:Calls P fn (vs++caps) w fun e w'=>∃ v,e=.returned v/\K (a.put o.dst v) w'):if Region.wanted o (yielded ops a.tmps)=true then Oper.wp P o a w K Q else E:=by
 have hw:Region.wanted o (yielded ops a.tmps)=true:=by simp[Region.wanted,hg]
 rw[if_pos hw];unfold Oper.wp
 have hr:(execOp a.eval o).run P w=.ok (.enter fn (vs++caps)) w:=by
  simp[execOp,hop,resolve,invoke,hcal,hvs,Deferred.ofValue]
  exact hcf
 rw[hr,Oper.upon_enter];refine hc.mono ?_;rintro e w' ⟨v,rfl,h⟩
 exact h
theorem xda {fn:Nat}{f:Func}(hf:Tryz.prog.funcs[fn]?=some f)(hn:(f.name == "runtime.NumGoroutine")=false)(hb:f.body.isSome=true)(args:Array Value)(w:World):(callFunc fn args).run Tryz.prog w=.ok (.enter fn args) w:=by
 have h1:¬ f.name = "runtime.NumGoroutine" := by simpa using hn
 have h2:¬ f.body=none:=by intro h;rw[h] at hb;cases hb
 simp[callFunc,hf,h1,h2]
theorem xft {P:Program}{ops:Array Oper}{o:Oper}{a:Act}{w:World}{K:Act->World->Prop}{Q:Exit->Act->World->Prop}{E:Prop}(hw:Region.wanted o (yielded ops a.tmps)=true)(fn:Nat)(cal:Operand)(args:Array Operand)(tys:Array TypeId)(hop:o.op=Op.call { callee:=Callee.value cal,args:=args,argTypes:=tys })
  (caps:Array Value) (hcal:a.eval cal=.func (.func fn) #[] caps) (vs:Array Value) (hvs:args.map a.eval=vs) (hcf:(callFunc fn (vs++caps)).run P w=.ok (.enter fn (vs++caps)) w) (hc:Calls P fn (vs++caps) w fun e w'=>∃ v,e=.returned v/\K (a.put o.dst v) w'):if Region.wanted o (yielded ops a.tmps)=true then Oper.wp P o a w K Q else E:=by
 rw[if_pos hw];unfold Oper.wp
 have hr:(execOp a.eval o).run P w=.ok (.enter fn (vs++caps)) w:=by
  simp[execOp,hop,resolve,invoke,hcal,hvs,Deferred.ofValue]
  exact hcf
 rw[hr,Oper.upon_enter];refine hc.mono ?_;rintro e w' ⟨v,rfl,h⟩
 exact h
theorem xfC {α:Type}{E:Lay α}{sz bytes:Nat}{P:Nat->Prop}{w:World}{v:Value}{xs:List α}(h:IsRow E sz bytes P w v xs)(hE:∀ f x,E P w f x->E (fun b=>b<w.heap.size) w f x/\∃ u,f 0=some u):IsRow E sz bytes (fun b=>b<w.heap.size) w v xs:=by
 obtain⟨ad,cap,h1,h2,h3,h4,h5⟩:=h;refine⟨ad,cap,h1,h2,h3,h4,fun i x hx=>?_⟩
 obtain⟨b,o,e1,e2,e3⟩:=h5 i x hx;obtain⟨k1,u,k2⟩:=hE _ _ e3
 exact⟨b,o,e1,World.block_lt_of_cell? w _ k2,k1⟩
theorem xkE {P:Nat->Prop}{w:World}{v:Value}{xs:List QI}(h:xaG P w v xs):xaG (fun b=>b<w.heap.size) w v xs:=xfC h fun f x hx=>⟨hx,_,hx.1⟩
theorem xjE {P:Nat->Prop}{w:World}{v:Value}{xs:List QM}(h:xbU P w v xs):xbU (fun b=>b<w.heap.size) w v xs:=xfC h fun f x hx=>by
 obtain⟨h0,h1,h2,h3,h4,c,h5,h6⟩:=hx
 exact⟨⟨h0,h1,h2,h3,h4,c,h5,xkE h6⟩,_,h0⟩
theorem xev {P:Nat->Prop}{w:World}{v:Value}{xs:List QC}(h:xag P w v xs):xag (fun b=>b<w.heap.size) w v xs:=xfC h fun f x hx=>by
 obtain⟨h0,h1,h2,h3,c,h5,h6⟩:=hx
 exact⟨⟨h0,h1,h2,h3,c,h5,xjE h6⟩,_,h0⟩
theorem cf26 (args:Array Value)(w:World):(callFunc 151 args).run Tryz.prog w=.ok (.enter 151 args) w:=xda Tryz.func151 (by kernel_rfl) (by kernel_rfl) args w
theorem cf27 (args:Array Value)(w:World):(callFunc 152 args).run Tryz.prog w=.ok (.enter 152 args) w:=xda Tryz.func152 (by kernel_rfl) (by kernel_rfl) args w
theorem cf28 (args:Array Value)(w:World):(callFunc 153 args).run Tryz.prog w=.ok (.enter 153 args) w:=xda Tryz.func153 (by kernel_rfl) (by kernel_rfl) args w
theorem cf45 (args:Array Value)(w:World):(callFunc 142 args).run Tryz.prog w=.ok (.enter 142 args) w:=xda Tryz.func142 (by kernel_rfl) (by kernel_rfl) args w
theorem cf46 (args:Array Value)(w:World):(callFunc 198 args).run Tryz.prog w=.ok (.enter 198 args) w:=xda Tryz.func198 (by kernel_rfl) (by kernel_rfl) args w
theorem xqU {U:World}{b o b' o':Nat}{v u:Value}(h:U.cell? ⟨b,o,none⟩=some v)(hne:b≠b'):(U.setCell ⟨b',o',none⟩ u).cell? ⟨b,o,none⟩=some v:=(World.cell?_setCell_far _ _ _ _ (by simp;omega)).trans h
abbrev xmT (U:World)(b:Nat)(u0 u1 u2 u3 u4:Value):World:=((((U.setCell ⟨b,0,none⟩ u0).setCell ⟨b,1,none⟩ u1).setCell ⟨b,2,none⟩ u2).setCell ⟨b,3,none⟩ u3).setCell ⟨b,4,none⟩ u4
theorem xdd {U:World}{b o b':Nat}{v u0 u1 u2 u3 u4:Value}(h:U.cell? ⟨b,o,none⟩=some v)(hne:b≠b'):(xmT U b' u0 u1 u2 u3 u4).cell? ⟨b,o,none⟩=some v:=xqU (xqU (xqU (xqU (xqU h hne) hne) hne) hne) hne
theorem xsN {U:World}{b b':Nat}{u0 u1 u2 u3 u4:Value}(hne:b≠b'):(xmT U b' u0 u1 u2 u3 u4).heap[b]?=U.heap[b]?:=by
 rw[xac hne,xac hne,xac hne,xac hne,xac hne]
theorem xsA {w U:World}{lo b:Nat}{u0 u1 u2 u3 u4:Value}(h:Below lo w U)(hb:lo<=b):Below lo w (xmT U b u0 u1 u2 u3 u4):=((((h.setCell hb _).setCell hb _).setCell hb _).setCell hb _).setCell hb _
abbrev ReV (r:ReE):Value:=.agg #[.int .i64 r.err,.int .i64 r.n,.int .i64 r.v.k,.int .i64 r.v.n]
abbrev SeO (cv hv:Value)(ep:Int)(lv tv sv:Value):Obj:=.cells #[cv,hv,.int .i64 ep,lv,tv,sv] 31 (0,0)
structure SesAt (P:Nat->Prop)(w:World)(cv hv lv tv:Value)(s:Sn):Prop where
 c:xag P w cv s.X.cz
 h:xav P w hv s.X.heap
 l:xbG P w lv s.cells
 t:xaI P w tv s.ts
theorem SesAt.keep {P Q:Nat->Prop}{w w':World}{cv hv lv tv:Value}{s:Sn}(h:SesAt P w cv hv lv tv s)(hk:Keeps P w w')(hl:∀ b,P b->Q b):SesAt Q w' cv hv lv tv s:=⟨h.c.keep xax hk hl,h.h.keep xaB hk hl,h.l.keep xbF hk hl,h.t.keep xbD hk hl⟩
def xct (P:Nat->Prop)(w:World)(sb:Nat)(sv:Value)(s':Sn)(r:ReE)(e:Ending)(w':World):Prop:=
 e=.returned (ReV r)/\(∃ cv hv lv tv,w'.heap[sb]?=some (SeO cv hv s'.X.ez lv tv sv)/\SesAt (fun b=>P b\/w.heap.size<=b) w' cv hv lv tv s')/\Kp (fun t=>t=3) (xkr sb) w w'
theorem xdB (er:Int)(w:World):Calls Tryz.prog 60 #[.int .i64 er] w fun e w'=>e=.returned (ReV (noE er 0))/\Below w.heap.size w w':=by
 go_enter Tryz.func60,Tryz.ntmps60;go_wp2;refine bodyPost_ret (v:=ReV (noE er 0)) ?_ rfl ⟨rfl,xai _ _⟩
 simp[results,Tryz.results60,go_sem]
theorem xeI (r:Ran)(w:World):Calls Tryz.prog 85 #[RnV r] w fun e w'=>e=.returned (ReV (xeR r))/\Below w.heap.size w w':=by
 go_enter Tryz.func85,Tryz.ntmps85;go_wp2;refine bodyPost_ret (v:=ReV (xeR r)) ?_ rfl ⟨rfl,xbp _ _ _⟩
 simp[results,Tryz.results85,go_sem,xeR]
structure Chg (b:Nat)(w U:World):Prop where
 os:U.os=w.os
 tape:U.tape=w.tape
 output:U.output=w.output
 size:U.heap.size=w.heap.size
 blk:∀ b',b'≠b->U.heap[b']?=w.heap[b']?
theorem Chg.refl (b:Nat)(w:World):Chg b w w:=⟨rfl,rfl,rfl,rfl,fun _ _=>rfl⟩
theorem Chg.set {b:Nat}{w U:World}(h:Chg b w U)(o:Nat)(u:Value):Chg b w (U.setCell ⟨b,o,none⟩ u):=by
 have k:Below b U (U.setCell ⟨b,o,none⟩ u):=(Below.refl _ _).setCell (by simp) _
 exact⟨k.os.trans h.os,k.tape.trans h.tape,k.output.trans h.output,(by simp:(U.setCell ⟨b,o,none⟩ u).heap.size=U.heap.size).trans h.size,fun b' hb=>(xac hb _).trans (h.blk b' hb)⟩
theorem Chg.below {b n:Nat}{w U:World}(h:Chg b w U)(hn:n<=b):Below n w U:=⟨h.os,h.tape,h.output,Nat.le_of_eq h.size.symm,fun b' hb=>h.blk b' (by omega)⟩
theorem Chg.keeps {b:Nat}{w U:World}(h:Chg b w U){P:Nat->Prop}(hP:¬ P b):Keeps P w U:=Keeps.of_block fun b' hb _=>h.blk b' (by intro e;subst e;exact hP hb)
theorem Chg.held {b:Nat}{w U:World}(h:Chg b w U){b':Nat}{o:Obj}(ho:w.heap[b']?=some o)(hb:b'≠b):U.heap[b']?=some o:=by rw[h.blk b' hb];exact ho
theorem xsq {w:World}{b:Nat}{x y z:Value}{t:TypeId}(h:w.heap[b]?=some (.cells #[x,y,z] t (0,0)))(u0 u1 u2:Value):(((w.setCell ⟨b,0,none⟩ u0).setCell ⟨b,1,none⟩ u1).setCell ⟨b,2,none⟩ u2).heap[b]?=some (.cells #[u0,u1,u2] t (0,0))/\Chg b w (((w.setCell ⟨b,0,none⟩ u0).setCell ⟨b,1,none⟩ u1).setCell ⟨b,2,none⟩ u2):=
 ⟨by rw[xae (xae (xae h _) _) _];rfl,(((Chg.refl _ _).set _ _).set _ _).set _ _⟩
theorem xk4 {w:World}{b:Nat}{x y z a:Value}{t:TypeId}(h:w.heap[b]?=some (.cells #[x,y,z,a] t (0,0)))(u0 u1 u2 u3:Value):((((w.setCell ⟨b,0,none⟩ u0).setCell ⟨b,1,none⟩ u1).setCell ⟨b,2,none⟩ u2).setCell ⟨b,3,none⟩ u3).heap[b]?=some (.cells #[u0,u1,u2,u3] t (0,0))/\Chg b w ((((w.setCell ⟨b,0,none⟩ u0).setCell ⟨b,1,none⟩ u1).setCell ⟨b,2,none⟩ u2).setCell ⟨b,3,none⟩ u3):=
 ⟨by rw[xae (xae (xae (xae h _) _) _) _];rfl,((((Chg.refl _ _).set _ _).set _ _).set _ _).set _ _⟩
theorem bx3 {w:World}{b:Nat}{x y z:Value}{t:TypeId}(h:w.heap[b]?=some (.cells #[x,y,z] t (0,0))):(∀ o,w.frozen? ⟨b,o,none⟩=false)/\w.cell? ⟨b,0,none⟩=some x/\w.cell? ⟨b,1,none⟩=some y/\w.cell? ⟨b,2,none⟩=some z:=by
 refine⟨xaq h,?_,?_,?_⟩<;>(rw[qzB h];rfl)
theorem bx4 {w:World}{b:Nat}{x y z a:Value}{t:TypeId}(h:w.heap[b]?=some (.cells #[x,y,z,a] t (0,0))):(∀ o,w.frozen? ⟨b,o,none⟩=false)/\w.cell? ⟨b,0,none⟩=some x/\w.cell? ⟨b,1,none⟩=some y/\w.cell? ⟨b,2,none⟩=some z/\w.cell? ⟨b,3,none⟩=some a:=by
 refine⟨xaq h,?_,?_,?_,?_⟩<;>(rw[qzB h];rfl)
structure BxR (sb:Nat)(cv hv:Value)(ep:Int)(lv tv sv:Value)(n:Nat)(v:QV)(name:ByteArray)(av:Value)(w':World):Prop where
 box:w'.heap[sb]?=some (SeO cv hv ep lv tv sv)
 cl:w'.heap[n]?=some (.cells #[.int .i64 v.k,.int .i64 v.n,.string name,av] 54 (0,0))
 re:w'.heap[n+1]?=some (.cells #[.int .i64 0,.int .i64 0,.int .i64 0,.int .i64 0] 43 (0,0))
theorem BxR.later {sb:Nat}{cv hv:Value}{ep:Int}{lv tv sv:Value}{n:Nat}{v:QV}{name:ByteArray}{av:Value}{w' w'':World}(h:BxR sb cv hv ep lv tv sv n v name av w')(hb:Below w'.heap.size w' w''):BxR sb cv hv ep lv tv sv n v name av w'':=⟨xaa h.box hb,xaa h.cl hb,xaa h.re hb⟩
abbrev xdN (sb:Nat)(cv hv:Value)(ep:Int)(lv tv sv:Value)(w':World):Prop:=w'.cell? ⟨sb,0,none⟩=some cv/\w'.cell? ⟨sb,1,none⟩=some hv/\w'.cell? ⟨sb,2,none⟩=some (.int .i64 ep)/\w'.cell? ⟨sb,3,none⟩=some lv/\w'.cell? ⟨sb,4,none⟩=some tv/\w'.cell? ⟨sb,5,none⟩=some sv
theorem xdY {sb:Nat}{cv hv:Value}{ep:Int}{lv tv sv:Value}{w':World}(h:w'.heap[sb]?=some (SeO cv hv ep lv tv sv)):xdN sb cv hv ep lv tv sv w':=by
 refine⟨?_,?_,?_,?_,?_,?_⟩<;>(rw[qzB h];rfl)
theorem xsI {n:Nat}{v:QV}{name:ByteArray}{av:Value}{w':World}(h:w'.heap[n]?=some (.cells #[.int .i64 v.k,.int .i64 v.n,.string name,av] 54 (0,0))):w'.cell? ⟨n,0,none⟩=some (.int .i64 v.k)/\w'.cell? ⟨n,1,none⟩=some (.int .i64 v.n)/\w'.cell? ⟨n,2,none⟩=some (.string name)/\w'.cell? ⟨n,3,none⟩=some av:=by
 refine⟨?_,?_,?_,?_⟩<;>(rw[qzB h];rfl)
theorem BxR.al {sb:Nat}{cv hv:Value}{ep:Int}{lv tv sv:Value}{n:Nat}{v:QV}{name:ByteArray}{av:Value}{w':World}(h:BxR sb cv hv ep lv tv sv n v name av w'):xdN sb cv hv ep lv tv sv w'/\w'.cell? ⟨n,0,none⟩=some (.int .i64 v.k)/\w'.cell? ⟨n,1,none⟩=some (.int .i64 v.n)/\w'.cell? ⟨n,2,none⟩=some (.string name)/\w'.cell? ⟨n,3,none⟩=some av:=⟨xdY h.box,xsI h.cl⟩
theorem xsw {w:World}{sb:Nat}{cv hv:Value}{ep:Int}{lv tv sv:Value}(h:w.heap[sb]?=some (SeO cv hv ep lv tv sv))(u0 u1:Value)(ep':Int):(((w.setCell ⟨sb,0,none⟩ u0).setCell ⟨sb,1,none⟩ u1).setCell ⟨sb,2,none⟩ (.int .i64 ep')).heap[sb]?=some (SeO u0 u1 ep' lv tv sv)/\Chg sb w (((w.setCell ⟨sb,0,none⟩ u0).setCell ⟨sb,1,none⟩ u1).setCell ⟨sb,2,none⟩ (.int .i64 ep')):=
 ⟨by rw[xae (xae (xae h _) _) _];rfl,(((Chg.refl _ _).set _ _).set _ _).set _ _⟩
structure ArF (sb rb:Nat)(w wc F:World):Prop where
 kp:Kp (fun t=>t=3) (xkr sb) w F
 keeps:∀ P:Nat->Prop,(∀ b,P b->b≠sb/\b≠rb)->Keeps P wc F
theorem xjZ {sb rb:Nat}{w wc Y Z F:World}(h1:Below w.heap.size w wc)(h2:Chg sb wc Y)(h3:Below Y.heap.size Y Z)(h4:Chg rb Z F)(hr:w.heap.size<=rb):ArF sb rb w wc F where
 kp:=⟨h4.os.trans (h3.os.trans (h2.os.trans h1.os)),h4.tape.trans (h3.tape.trans (h2.tape.trans h1.tape)),h4.output.trans (h3.output.trans (h2.output.trans h1.output)),by have a1:=h1.size;have a2:=h2.size;have a3:=h3.size;have a4:=h4.size;omega,fun b hb hs=>by
  have hn:b≠sb:=fun e=>hs (by rw[e];exact xgK sb)
  have a1:=h1.size;have a2:=h2.size;rw[h4.blk b (by omega),h3.block b (by omega),h2.blk b hn,h1.block b hb]⟩
 keeps P hP:=Keeps.of_block fun b hb hl=>by
  have a2:=h2.size;rw[h4.blk b (hP b hb).2,h3.block b (by omega),h2.blk b (hP b hb).1]
abbrev StV (x:StE)(mv av:Value):Value:=.agg #[.int .i64 x.kind,.string x.name,.int .i64 x.cls,.int .i64 x.slots,.string x.meth.name,.int .i64 x.meth.args,.int .i64 x.meth.temps,.int .i64 x.meth.prim,mv,.int .i64 x.sf.k,.int .i64 x.sf.n,.string x.cname,av]
abbrev SeV (cv hv:Value)(ep:Int)(lv tv sv:Value):Value:=.agg #[cv,hv,.int .i64 ep,lv,tv,sv]
structure NamesOk (x:StE):Prop where
 n:x.name.size<=140737488351232
 m:x.meth.name.size<=140737488351232
 c:x.cname.size<=140737488351232
def xrV:Lay StE:=fun P w f x=>f 0=some (.int .i64 x.kind)/\f 1=some (.string x.name)/\f 2=some (.int .i64 x.cls)/\f 3=some (.int .i64 x.slots)/\f 4=some (.string x.meth.name)/\f 5=some (.int .i64 x.meth.args)/\f 6=some (.int .i64 x.meth.temps)/\f 7=some (.int .i64 x.meth.prim)/\f 9=some (.int .i64 x.sf.k)/\f 10=some (.int .i64 x.sf.n)/\f 11=some (.string x.cname)/\NamesOk x/\∃ v u,f 8=some v/\xaG P w v x.meth.code/\f 12=some u/\xaV P w u x.args
theorem xbR:Good xrV 13 where
 move h hl hk hf:=by
  obtain⟨h0,h1,h2,h3,h4,h5,h6,h7,h9,h10,h11,hn,v,u,h8,hv,h12,hu⟩:=h
  exact⟨hf 0 (by omega) _ h0,hf 1 (by omega) _ h1,hf 2 (by omega) _ h2,hf 3 (by omega) _ h3,hf 4 (by omega) _ h4,hf 5 (by omega) _ h5,hf 6 (by omega) _ h6,hf 7 (by omega) _ h7,hf 9 (by omega) _ h9,hf 10 (by omega) _ h10,hf 11 (by omega) _ h11,hn,v,u,hf 8 (by omega) _ h8,hv.keep xaU hk hl,hf 12 (by omega) _ h12,hu.keep xa7 hk hl⟩
 there h k hk:=by
  obtain⟨h0,h1,h2,h3,h4,h5,h6,h7,h9,h10,h11,hn,v,u,h8,hv,h12,hu⟩:=h
  match k,hk with
  | 0,_=>exact⟨_,h0,rfl⟩
  | 1,_=>exact⟨_,h1,rfl⟩
  | 2,_=>exact⟨_,h2,rfl⟩
  | 3,_=>exact⟨_,h3,rfl⟩
  | 4,_=>exact⟨_,h4,rfl⟩
  | 5,_=>exact⟨_,h5,rfl⟩
  | 6,_=>exact⟨_,h6,rfl⟩
  | 7,_=>exact⟨_,h7,rfl⟩
  | 8,_=>exact⟨_,h8,xc1 hv⟩
  | 9,_=>exact⟨_,h9,rfl⟩
  | 10,_=>exact⟨_,h10,rfl⟩
  | 11,_=>exact⟨_,h11,rfl⟩
  | 12,_=>exact⟨_,h12,xc1 hu⟩
 pos:=by omega
abbrev xg2:=IsRow xrV 13 160
def ReC:Lay ReE:=fun _ _ f x=>f 0=some (.int .i64 x.err)/\f 1=some (.int .i64 x.n)/\f 2=some (.int .i64 x.v.k)/\f 3=some (.int .i64 x.v.n)
theorem xh5:Good ReC 4 where
 move h _ _ hf:=⟨hf 0 (by omega) _ h.1,hf 1 (by omega) _ h.2.1,hf 2 (by omega) _ h.2.2.1,hf 3 (by omega) _ h.2.2.2⟩
 there h k hk:=by
  obtain⟨h0,h1,h2,h3⟩:=h
  match k,hk with
  | 0,_=>exact⟨_,h0,rfl⟩
  | 1,_=>exact⟨_,h1,rfl⟩
  | 2,_=>exact⟨_,h2,rfl⟩
  | 3,_=>exact⟨_,h3,rfl⟩
 pos:=by omega
abbrev xhg:=IsRow ReC 4 32
structure PcB (w:World)(leaf:QM)(kv:Value)(sf args temps first behind:Int)(w':World):Prop where
 l1:w'.cell? ⟨w.heap.size,1,none⟩=some (.int .i64 leaf.args)
 l2:w'.cell? ⟨w.heap.size,2,none⟩=some (.int .i64 leaf.temps)
 l4:w'.cell? ⟨w.heap.size,4,none⟩=some kv
 p0:w'.cell? ⟨w.heap.size+2,0,none⟩=some (.int .i64 sf)
 p1:w'.cell? ⟨w.heap.size+2,1,none⟩=some (.int .i64 args)
 p2:w'.cell? ⟨w.heap.size+2,2,none⟩=some (.int .i64 temps)
 p3:w'.cell? ⟨w.heap.size+2,3,none⟩=some (.int .i64 first)
 p4:w'.cell? ⟨w.heap.size+2,4,none⟩=some (.int .i64 behind)
theorem xdS {lo:Nat}{w w':World}(hb:Below lo w w'){b o:Nat}{v:Value}(hl:b<lo)(h:w.cell? ⟨b,o,none⟩=some v):w'.cell? ⟨b,o,none⟩=some v:=by
 unfold World.cell? at h ⊢;rw[hb.block b hl]
 exact h
theorem PcB.below {w:World}{leaf:QM}{kv:Value}{self args temps first behind:Int}{w' w'':World}(h:PcB w leaf kv self args temps first behind w')(hb:Below (w.heap.size+3) w' w''):PcB w leaf kv self args temps first behind w'':=
 ⟨xdS hb (by omega) h.l1,xdS hb (by omega) h.l2,xdS hb (by omega) h.l4,xdS hb (by omega) h.p0,xdS hb (by omega) h.p1,xdS hb (by omega) h.p2,xdS hb (by omega) h.p3,xdS hb (by omega) h.p4⟩
theorem xqD (w:World)(leaf:QM)(kv:Value)(g:QI)(self args temps first behind:Int):PcB w leaf kv self args temps first behind (((w.alloc (.cells #[.string leaf.name,.int .i64 leaf.args,.int .i64 leaf.temps,.int .i64 leaf.prim,kv] 51)).alloc (.cells #[.int .i64 g.op,.int .i64 g.a,.int .i64 g.b,.int .i64 g.c,.string g.name] 69)).alloc (.cells #[.int .i64 self,.int .i64 args,.int .i64 temps,.int .i64 first,.int .i64 behind] 228)):=
 ⟨qzA (xbp _ _ _) (xab w #[.string leaf.name,.int .i64 leaf.args,.int .i64 leaf.temps,.int .i64 leaf.prim,kv] 51 _ rfl 1),qzA (xbp _ _ _) (xab w #[.string leaf.name,.int .i64 leaf.args,.int .i64 leaf.temps,.int .i64 leaf.prim,kv] 51 _ rfl 2),qzA (xbp _ _ _) (xab w #[.string leaf.name,.int .i64 leaf.args,.int .i64 leaf.temps,.int .i64 leaf.prim,kv] 51 _ rfl 4),xab _ _ _ _ (by simp) 0,xab _ _ _ _ (by simp) 1,xab _ _ _ _ (by simp) 2,xab _ _ _ _ (by simp) 3,xab _ _ _ _ (by simp) 4⟩
abbrev OwnI (w:World)(B:Nat)(a:Option Addr)(cap:Nat)(code:List QI):Prop:=ownsAt w B 69 5 (.slice a code.length cap) code.length (xbe code)
theorem OwnI.more {w':World}{B cap':Nat}{a':Option Addr}{code ys:List QI}{k:Nat}{vs:List Value}(h:ownsAt w' B 69 5 (.slice a' (code.length+k) cap') (code.length+k) (xbe code++vs))(hk:ys.length=k)(hv:xbe ys=vs):OwnI w' B a' cap' (code++ys):=by
 unfold OwnI;rw[xeY,List.length_append,hk,hv]
 exact h
theorem xog {w:World}{B B' cap:Nat}{a:Option Addr}{code:List QI}(h:OwnI w B a cap code)(hb:B'<=B):OwnI w B' a cap code:=by
 obtain⟨h1,h2 | ⟨g,o,c,cur,e,h3,h4⟩⟩:=h
 ·exact⟨h1,Or.inl h2⟩
 ·exact⟨h1,Or.inr ⟨g,o,c,cur,e,qzD hb h3,h4⟩⟩
theorem xqw {lo:Nat}{w w' w'':World}(h:Below lo w w')(k:Below w'.heap.size w' w'')(hl:lo<=w'.heap.size):Below lo w w'':=h.trans ⟨k.os,k.tape,k.output,k.size,fun b hb=>k.block b (by omega)⟩
theorem xfY {lo:Nat}{w w':World}(h:Below lo w w')(o:Obj)(hl:lo<=w'.heap.size):Below lo w (w'.alloc o):=xqw h (xai _ _) hl
theorem xmF {P:Nat->Prop}(lname:ByteArray)(A T:Nat)(lprim:Int)(lc:List QI)(g:QI)(self tm first behind:Int)(kv:Value)(w:World)(hk:xaG P w kv lc)(hA4:A<=4)(hT6:T<=6)(hs:0<=self/\self<=100)(htm:0<=tm/\tm<=200)(hf:0<=first/\first<=1000)(hl60:lc.length<=60)
  (hx:∀ x∈lc,(x.op=2\/x.op=3\/x.op=11\/x.op=15\/x.op=16)->0<=x.a/\x.a<=1000) (R:List QI) (HR:Hid (R=[g,ins 21 0 0 0]++xdh (self+1) A++[ins 11 self 0 0]++xcF tm T++lc.map (xaw self (self+1) tm first behind))) :
  Calls Tryz.prog 152 #[MV ⟨lname,A,T,lprim,lc⟩ kv,IV g,PlV self (self+1) tm first behind] w fun e w'=>∃ a cap,e=.returned (.slice a R.length cap)/\OwnI w' w.heap.size a cap R/\Below w.heap.size w w':=by
 obtain⟨ak,ck,rfl,hlk,hck,-,hrow⟩:=id hk;unfold maxLen at hck;have hB0:=xqD w ⟨lname,A,T,lprim,lc⟩ (.slice ak lc.length ck) g self (self+1) tm first behind
 have hb3:=xeQ w (.cells #[.string lname,.int .i64 (A:Int),.int .i64 (T:Int),.int .i64 lprim,.slice ak lc.length ck] 51) (.cells #[.int .i64 g.op,.int .i64 g.a,.int .i64 g.b,.int .i64 g.c,.string g.name] 69) (.cells #[.int .i64 self,.int .i64 (self+1),.int .i64 tm,.int .i64 first,.int .i64 behind] 228)
 have hz3:(((w.alloc (.cells #[.string lname,.int .i64 (A:Int),.int .i64 (T:Int),.int .i64 lprim,.slice ak lc.length ck] 51)).alloc (.cells #[.int .i64 g.op,.int .i64 g.a,.int .i64 g.b,.int .i64 g.c,.string g.name] 69)).alloc (.cells #[.int .i64 self,.int .i64 (self+1),.int .i64 tm,.int .i64 first,.int .i64 behind] 228)).heap.size=w.heap.size+3:=by simp
 go_enter Tryz.func152,Tryz.ntmps152
 go_upto_region 2 with (fail)
 generalize (((w.alloc (.cells #[.string lname,.int .i64 (A:Int),.int .i64 (T:Int),.int .i64 lprim,.slice ak lc.length ck] 51)).alloc (.cells #[.int .i64 g.op,.int .i64 g.a,.int .i64 g.b,.int .i64 g.c,.string g.name] 69)).alloc (.cells #[.int .i64 self,.int .i64 (self+1),.int .i64 tm,.int .i64 first,.int .i64 behind] 228))=W0 at *
 simp only[Nat.add_assoc,Nat.reduceAdd];have hb4:Below (w.heap.size+3) W0 (W0.alloc (.cells #[.int .i64 g.op,.int .i64 g.a,.int .i64 g.b,.int .i64 g.c,.string g.name,.int .i64 21,.int .i64 0,.int .i64 0,.int .i64 0,.string ⟨#[]⟩] 69)):=xfY (Below.refl _ _) _ (by omega)
 have hz4:w.heap.size+4<=(W0.alloc (.cells #[.int .i64 g.op,.int .i64 g.a,.int .i64 g.b,.int .i64 g.c,.string g.name,.int .i64 21,.int .i64 0,.int .i64 0,.int .i64 0,.string ⟨#[]⟩] 69)).heap.size:=by simp;omega
 have hO:OwnI (W0.alloc (.cells #[.int .i64 g.op,.int .i64 g.a,.int .i64 g.b,.int .i64 g.c,.string g.name,.int .i64 21,.int .i64 0,.int .i64 0,.int .i64 0,.string ⟨#[]⟩] 69)) (w.heap.size+3) (some ⟨w.heap.size+3,0,none⟩) 2 [g,ins 21 0 0 0]:=by
  refine⟨rfl,Or.inr ⟨w.heap.size+3,0,2,_,rfl,qzC _,by rw[← hz3];exact heap_alloc_new W0 _,qzC _,by unfold maxLen;omega,qzC _,rfl⟩⟩
 have hB:=hB0.below hb4;have hbw:Below w.heap.size w (W0.alloc (.cells #[.int .i64 g.op,.int .i64 g.a,.int .i64 g.b,.int .i64 g.c,.string g.name,.int .i64 21,.int .i64 0,.int .i64 0,.int .i64 0,.string ⟨#[]⟩] 69)):=xaf hb3 (xai _ _);generalize (W0.alloc (.cells #[.int .i64 g.op,.int .i64 g.a,.int .i64 g.b,.int .i64 g.c,.string g.name,.int .i64 21,.int .i64 0,.int .i64 0,.int .i64 0,.string ⟨#[]⟩] 69))=W at *;clear hB0 hb3 hz3 hb4 hrow W0;have hwA:IntKind.i64.wrap ((A:Int)-1)=(A:Int)-1:=xal (by omega) (by omega)
 have l1:=hB.l1;dsimp only at l1;go_wp2;clear l1
 go_loopg [7,8] A (fun gk cv nv wr=>∃ (a:Option Addr) (cap:Nat) (code:List QI),nv=.int .i64 ((gk:Int)-1)/\cv=.slice a code.length cap/\OwnI wr (w.heap.size+3) a cap code/\Hid (code++xdh (self+1) gk=[g,ins 21 0 0 0]++xdh (self+1) A)/\Below (w.heap.size+3) W wr/\code.length+gk=A+2)
 case atStart=>exact⟨_,_,_,rfl,rfl,hO,rfl,Below.refl _ _,by simp;omega⟩
 case round=>
  clear hO;obtain⟨a,cap,code,rfl,rfl,hO,HC,hb,hcl⟩:=hrel;have hzr:w.heap.size+4<=wr.heap.size:=qzD hz4 hb.size
  have hcap:code.length<=cap/\cap<=9223372036854775807:=by
   obtain⟨a',c',e,h1,h2⟩:=hO.form
   cases e;unfold maxLen at h2;omega
  cases gk with
  | zero=>
   have HC0:Hid (code=[g,ins 21 0 0 0]++xdh (self+1) A):=by show _=_;rw[← HC.out];simp[xdh]
   have hd0:decide ((0:Int)<=((0:Nat):Int)-1)=false:=by decide
   have p0:=(hB.below hb).p0;have l2:wr.cell? ⟨w.heap.size,2,none⟩=some (.int .i64 (T:Int)):=(hB.below hb).l2
   go_upto_region 7 with (at_builtin;refine xbS rfl (.tmp 30) (.tmp 34) 49 69 _ 5 48 rfl Tryz.underlying49 xf0 rfl (by omega) (w.heap.size+3) code.length (.slice a code.length cap) (xbe code) rfl (hO.alloc _) wr.heap.size rfl [.int .i64 11,.int .i64 self,.int .i64 0,.int .i64 0,.string ⟨#[]⟩] rfl (heap_alloc_new _ _) (by intro u hu;simp only[List.mem_cons,List.not_mem_nil,or_false] at hu;rcases hu with h | h | h | h | h<;>(subst h;rfl)) (by unfold maxLen;omega) (by omega) (by simp;omega) ?_;intro a1 cap1 w1 r1 r2 r3 r4)
   have hO1:=OwnI.more (ys:=[ins 11 self 0 0]) r1 rfl rfl;have hb1:=(xfY hb (.cells #[.int .i64 11,.int .i64 self,.int .i64 0,.int .i64 0,.string ⟨#[]⟩] 69) (by omega)).trans r3
   have hz1:w.heap.size+4<=w1.heap.size:=qzD hz4 hb1.size;clear r1 r2 r3 r4 hO HC p0 l2;obtain⟨C1,hC1⟩:∃ C1,C1=code++[ins 11 self 0 0]:=⟨_,rfl⟩;have hl1:code.length+1=C1.length:=by rw[hC1];simp
   have HLC:Hid (C1.length=A+3):=by show _=_;omega
   rw[← hC1] at hO1;rw[hl1];have HC1:Hid (C1=[g,ins 21 0 0 0]++xdh (self+1) A++[ins 11 self 0 0]):=by show _=_;rw[hC1,HC0.out]
   clear hC1 HC0 hl1 hcl hzr hcap;have l2:w1.cell? ⟨w.heap.size,2,none⟩=some (.int .i64 (T:Int)):=(hB.below hb1).l2;go_wp2;clear l2
   go_loopg [7,38] T (fun g2 cv iv wr=>∃ (i:Nat) (a:Option Addr) (cap:Nat),i+g2=T/\iv=.int .i64 (i:Int)/\cv=.slice a (C1++xcF tm i).length cap/\OwnI wr (w.heap.size+3) a cap (C1++xcF tm i)/\Below (w.heap.size+3) W wr)
   case atStart=>exact⟨0,a1,cap1,by omega,rfl,by simp[xcF],by simpa [xcF] using hO1,hb1⟩
   case round=>
    clear hO1 hb1 hz1 hb;obtain⟨i,a,cap,hi,rfl,rfl,hO,hb⟩:=hrel;have hzr:w.heap.size+4<=wr.heap.size:=qzD hz4 hb.size;have HCL:Hid ((C1++xcF tm i).length=A+3+2*i):=by show _=_;rw[List.length_append,xdT,HLC.out]
    have hcl:(C1++xcF tm i).length<=20:=by have:=HCL.out;omega
    have hcap:(C1++xcF tm i).length<=cap/\cap<=9223372036854775807:=by
     obtain⟨a',c',e,h1,h2⟩:=hO.form
     cases e;unfold maxLen at h2;exact⟨h1,by omega⟩
    by_cases hlt:i<T
    ·have hd:decide ((i:Int)<(T:Int))=true:=by simp;omega
     have p2:=(hB.below hb).p2;have hw1:IntKind.i64.wrap (tm+(i:Int))=tm+(i:Int):=xal (by omega) (by omega)
     obtain⟨cd,hcd⟩:∃ cd,cd=C1++xcF tm i:=⟨_,rfl⟩;have HCD:Hid (cd++[ins 6 0 0 0,ins 11 (tm+(i:Int)) 0 0]=C1++xcF tm (i+1)):=by show _=_;rw[hcd,xel];simp
     rw[← hcd] at hO hcl hcap HCL ⊢;clear hcd
     go_wp2_with (at_builtin;refine xgC rfl (.tmp 41) (.tmp 48) 49 69 _ 5 48 rfl Tryz.underlying49 xf0 rfl (by omega) (w.heap.size+3) cd.length (.slice a cd.length cap) (xbe cd) rfl (hO.alloc _) ⟨wr.heap.size,0,none⟩ 2 2 (by omega) rfl [.int .i64 6,.int .i64 0,.int .i64 0,.int .i64 0,.string ⟨#[]⟩,.int .i64 11,.int .i64 (tm+(i:Int)),.int .i64 0,.int .i64 0,.string ⟨#[]⟩] rfl (fun j u hj=>by rw[Addr.add_lit,Nat.zero_add,qzB (heap_alloc_new _ _)];simpa using hj) (by intro u hu;simp only[List.mem_cons,List.not_mem_nil,or_false] at hu;rcases hu with h | h | h | h | h | h | h | h | h | h<;>(subst h;rfl)) (by unfold maxLen;omega) (by omega) (by simp;omega) ?_;intro a' cap' w' r1 r2 r3 r4;have hO':=xcE (OwnI.more (ys:=[ins 6 0 0 0,ins 11 (tm+(i:Int)) 0 0]) r1 rfl rfl);have hb':=xcE ((xfY hb (.cells #[.int .i64 6,.int .i64 0,.int .i64 0,.int .i64 0,.string ⟨#[]⟩,.int .i64 11,.int .i64 (tm+(i:Int)),.int .i64 0,.int .i64 0,.string ⟨#[]⟩] 69) (by omega)).trans r3);clear r1 r2 r3 r4)
     go_roundg (T-(i+1))
     case measure=>omega
     case rel=>
      refine⟨i+1,_,_,by omega,by go_num,?_,by rw[← HCD.out];exact hO'.out,hb'.out⟩
      rw[← HCD.out];simp
    ·obtain rfl:i=T:=by omega
     have hd:decide ((i:Int)<(i:Int))=false:=by simp
     obtain⟨C2,hC2⟩:∃ C2,C2=C1++xcF tm i:=⟨_,rfl⟩;have HC2:Hid (C2=[g,ins 21 0 0 0]++xdh (self+1) A++[ins 11 self 0 0]++xcF tm i):=by show _=_;rw[hC2,HC1.out]
     rw[← hC2] at hO hcl hcap HCL ⊢;clear hC2 HC1 HLC hlt hi;have l4:wr.cell? ⟨w.heap.size,4,none⟩=some (.slice ak lc.length ck):=(hB.below hb).l4;go_wp2;clear l4
     go_loopg [7,54] lc.length (fun g3 cv iv wr=>∃ (k:Nat) (a:Option Addr) (cap:Nat),k+g3=lc.length/\iv=.int .i64 (k:Int)/\cv=.slice a (C2++(lc.take k).map (xaw self (self+1) tm first behind)).length cap/\OwnI wr (w.heap.size+3) a cap (C2++(lc.take k).map (xaw self (self+1) tm first behind))/\Below (w.heap.size+3) W wr)
     case atStart=>exact⟨0,a,cap,by omega,rfl,by simp,by simpa using hO,hb⟩
     case round=>
      clear hO hb hzr hcap;obtain⟨k,a,cap,hkk,rfl,rfl,hO,hb⟩:=hrel;have hzr:w.heap.size+4<=wr.heap.size:=qzD hz4 hb.size;have hcl2:(C2++(lc.take k).map (xaw self (self+1) tm first behind)).length<=100:=by have:=HCL.out;simp;omega
      have hcap:(C2++(lc.take k).map (xaw self (self+1) tm first behind)).length<=cap/\cap<=9223372036854775807:=by
       obtain⟨a',c',e,h1,h2⟩:=hO.form
       cases e;unfold maxLen at h2;exact⟨h1,by omega⟩
      have hbr:Below w.heap.size w wr:=hbw.trans ⟨hb.os,hb.tape,hb.output,hb.size,fun b hb'=>hb.block b (by omega)⟩
      by_cases hlt:k<lc.length
      ·have hxk:lc[k]?=some lc[k]:=by simp[hlt]
       obtain⟨ad2,cap2,e2,-,-,-,hrow⟩:=hk.later xaU hbr
       cases e2
       obtain⟨b,o,rfl,-,u0,u1,u2,u3,u4,-⟩:=hrow k lc[k] hxk;have hxa:=hx lc[k] (List.getElem_mem hlt);have HTK:Hid (C2++(lc.take (k+1)).map (xaw self (self+1) tm first behind)=C2++(lc.take k).map (xaw self (self+1) tm first behind)++[xaw self (self+1) tm first behind lc[k]]):=by show _=_;rw[List.take_add_one,hxk,List.map_append,← List.append_assoc];rfl
       generalize lc[k]=x at *;simp only[Nat.add_zero] at u0;obtain⟨cd,hcd⟩:∃ cd,cd=C2++(lc.take k).map (xaw self (self+1) tm first behind):=⟨_,rfl⟩
       rw[← hcd] at hO hcl2 hcap HTK ⊢;clear hcd hrow hxk;have hk1:(k:Int)<(lc.length:Int):=by omega
       have hk0:(0:Int)<=(k:Int):=by omega
       have hbx:=xai wr (.cells #[.int .i64 x.op,.int .i64 x.a,.int .i64 x.b,.int .i64 x.c,.string x.name] 69);have hBx:=(hB.below hb).below (⟨hbx.os,hbx.tape,hbx.output,hbx.size,fun b hb'=>hbx.block b (by omega)⟩:Below (w.heap.size+3) _ _)
       obtain⟨-,-,-,p0,p1,p2,p3,p4⟩:=hBx;go_wp2_with fail;refine (xll self (self+1) tm first behind x _ (by omega) (by omega) hf hxa).mono ?_
       rintro e w1 ⟨rfl,hb1⟩;dsimp only;generalize xaw self (self+1) tm first behind x=y at *
       have hO1:OwnI w1 (w.heap.size+3) a cap cd:=hO.keep fun g hg=>by rw[hb1.block g (by have:=(hO.lt g hg).2;simp;omega),hbx.block g (hO.lt g hg).2]
       have hbB:Below (w.heap.size+3) W w1:=xqw (xfY hb (.cells #[.int .i64 x.op,.int .i64 x.a,.int .i64 x.b,.int .i64 x.c,.string x.name] 69) (by omega)) hb1 (by simp;omega)
       have hz1:w.heap.size+4<=w1.heap.size:=qzD hz4 hbB.size;clear p0 p1 p2 p3 p4 u0 u1 u2 u3 u4 hO hb hbx hb1
       go_wp2_with (at_builtin;refine xbS rfl (.tmp 58) (.tmp 62) 49 69 _ 5 48 rfl Tryz.underlying49 xf0 rfl (by omega) (w.heap.size+3) cd.length (.slice a cd.length cap) (xbe cd) rfl (hO1.alloc _) w1.heap.size rfl [.int .i64 y.op,.int .i64 y.a,.int .i64 y.b,.int .i64 y.c,.string y.name] rfl (heap_alloc_new _ _) (by intro u hu;simp only[List.mem_cons,List.not_mem_nil,or_false] at hu;rcases hu with h | h | h | h | h<;>(subst h;rfl)) (by unfold maxLen;omega) (by omega) (by simp;omega) ?_;intro a' cap' w' r1 r2 r3 r4;have hO':=xcE (OwnI.more (ys:=[y]) r1 rfl rfl);have hb':=xcE ((xfY hbB (.cells #[.int .i64 y.op,.int .i64 y.a,.int .i64 y.b,.int .i64 y.c,.string y.name] 69) (by omega)).trans r3);clear r1 r2 r3 r4)
       go_roundg (lc.length-(k+1))
       case measure=>omega
       case rel=>
        refine⟨k+1,_,_,by omega,by go_num,?_,by rw[HTK.out];exact hO'.out,hb'.out⟩
        rw[HTK.out];simp
      ·obtain rfl:k=lc.length:=by omega
       have HE:Hid (C2++(lc.take lc.length).map (xaw self (self+1) tm first behind)=R):=by show _=_;rw[HR.out,HC2.out,List.take_length]
       rw[HE.out] at hO ⊢;have HO:=xcE (xog (B':=w.heap.size) hO (by omega))
       have HBR:=xcE hbr;clear hO hbr hcl2 hcap;go_wp2
       go_ret
       exact⟨_,_,rfl,HO.out,HBR.out⟩
  | succ j=>
   have hnn:(((j+1:Nat):Int)-1)=(j:Int):=by omega
   rw[hnn];have hd0:decide ((0:Int)<=(j:Int))=true:=by simp
   have p1:=(hB.below hb).p1;have hw1:IntKind.i64.wrap (self+1+(j:Int))=self+1+(j:Int):=xal (by omega) (by omega)
   have hw2:IntKind.i64.wrap ((j:Int)-1)=(j:Int)-1:=xal (by omega) (by omega)
   go_wp2_with (at_builtin;refine xbS rfl (.tmp 22) (.tmp 28) 49 69 _ 5 48 rfl Tryz.underlying49 xf0 rfl (by omega) (w.heap.size+3) code.length (.slice a code.length cap) (xbe code) rfl (hO.alloc _) wr.heap.size rfl [.int .i64 11,.int .i64 (self+1+(j:Int)),.int .i64 0,.int .i64 0,.string ⟨#[]⟩] rfl (heap_alloc_new _ _) (by intro u hu;simp only[List.mem_cons,List.not_mem_nil,or_false] at hu;rcases hu with h | h | h | h | h<;>(subst h;rfl)) (by unfold maxLen;omega) (by omega) (by simp;omega) ?_;intro a' cap' w' r1 r2 r3 r4;have hO':=xcE (OwnI.more (ys:=[ins 11 (self+1+(j:Int)) 0 0]) r1 rfl rfl);have hb':=xcE ((xfY hb (.cells #[.int .i64 11,.int .i64 (self+1+(j:Int)),.int .i64 0,.int .i64 0,.string ⟨#[]⟩] 69) (by omega)).trans r3);clear r1 r2 r3 r4)
   go_roundg j
   case measure=>omega
   case rel=>exact⟨_,_,_,by go_num,by simp,hO'.out,by show _=_;rw[← HC.out];simp[xdh],hb'.out,by simp;omega⟩
theorem xns {P:Nat->Prop}(leaf:QM)(g:QI)(self n:Int)(kv:Value)(w:World)(hk:xaG P w kv leaf.code)(ha:0<=leaf.args/\leaf.args<=4)(ht:0<=leaf.temps/\leaf.temps<=6)(hs:0<=self/\self<=100)(hn:0<=n/\n<=300)(hl60:leaf.code.length<=60)
  (hx:∀ x∈leaf.code,(x.op=2\/x.op=3\/x.op=11\/x.op=15\/x.op=16)->0<=x.a/\x.a<=1000) :
  Calls Tryz.prog 152 #[MV leaf kv,IV g,PlV self (self+1) (self+1+leaf.args) (xbE leaf n) (xbE leaf n+leaf.code.length)] w fun e w'=>∃ a cap,e=.returned (.slice a (xbC leaf g self n).length cap)/\OwnI w' w.heap.size a cap (xbC leaf g self n)/\Below w.heap.size w w':=by
 obtain⟨lname,largs,ltemps,lprim,lc⟩:=leaf;obtain⟨A,rfl⟩:∃ A:Nat,largs=(A:Int):=⟨largs.toNat,by simp only at ha;omega⟩
 obtain⟨T,rfl⟩:∃ T:Nat,ltemps=(T:Int):=⟨ltemps.toNat,by simp only at ht;omega⟩
 simp only at ha ht hl60 hx hk;refine xmF lname A T lprim lc g self _ _ _ kv w hk (by omega) (by omega) hs (by simp only;omega) (by unfold xbE;simp only;omega) hl60 hx _ ?_
 show _=_
 unfold xbC xf7
 simp
def xg1 (xs:List QC)(c k:Int):Option QM:=(xa8 xs c).bind fun x=>if 0<=k then x.mz[k.toNat]? else none
theorem xls {P:Nat->Prop}(X:QW)(c k:Int)(cv hv:Value)(w:World)(hC:xag P w cv X.cz)(hH:xav P w hv X.heap):Calls Tryz.prog 148 #[WV cv hv X.ez,.int .i64 c,.int .i64 k] w fun e w'=>e=.returned (.bool (xg1 X.cz c k).isSome)/\Below w.heap.size w w':=by
 obtain⟨ac,cc,rfl,hl,hcc,-,hrow⟩:=id hC;obtain⟨ah,ch,rfl,-⟩:=id hH;unfold maxLen at hcc;have hb0:=xai w (.cells #[.slice ac X.cz.length cc,.slice ah X.heap.length ch,.int .i64 X.ez] 26)
 by_cases hc0:0<=c
 ·obtain⟨q,rfl⟩:∃ q:Nat,c=(q:Int):=⟨c.toNat,by omega⟩
  have hd0:decide ((0:Int)<=(q:Int))=true:=by simp
  by_cases hq:q<X.cz.length
  ·have hx:X.cz[q]?=some X.cz[q]:=by simp[hq]
   have HM:Hid (xg1 X.cz (q:Int) k=if 0<=k then X.cz[q].mz[k.toNat]? else none):=by show _=_;unfold xg1;rw[xcX,hx];rfl
   obtain⟨b,o,rfl,-,-,-,-,-,mv,y3,hms⟩:=hrow q _ hx;generalize X.cz[q]=xc at *;obtain⟨am,cm,rfl,-⟩:=id hms;have u3:=qzA hb0 y3;have hq1:(q:Int)<(X.cz.length:Int):=by omega
   have hq0:(0:Int)<=(q:Int):=by omega
   clear hrow y3 hms
   by_cases hk:0<=k
   ·have HM2:Hid ((xg1 X.cz (q:Int) k).isSome=decide (k<(xc.mz.length:Int))):=by
     show _=_
     rw[HM.out,if_pos hk]
     by_cases h:k<(xc.mz.length:Int)
     ·rw[List.getElem?_eq_getElem (by omega)];simp[h]
     ·rw[List.getElem?_eq_none (by omega)];simp[h]
    go_enter Tryz.func148,Tryz.ntmps148;go_wp2
    go_ret
    exact⟨xbg HM2.out.symm,hb0⟩
   ·have HM2:Hid ((xg1 X.cz (q:Int) k).isSome=false):=by show _=_;rw[HM.out,if_neg hk];rfl
    have hkn:¬ (0<=k):=hk;go_enter Tryz.func148,Tryz.ntmps148;go_wp2
    go_ret
    exact⟨xbg HM2.out.symm,hb0⟩
  ·have HM2:Hid ((xg1 X.cz (q:Int) k).isSome=false):=by show _=_;unfold xg1;rw[xcX,List.getElem?_eq_none (by omega)];rfl
   have hqn:¬ ((q:Int)<(X.cz.length:Int)):=by omega
   clear hrow;go_enter Tryz.func148,Tryz.ntmps148;go_wp2
   go_ret
   exact⟨xbg HM2.out.symm,hb0⟩
 ·have HM2:Hid ((xg1 X.cz c k).isSome=false):=by show _=_;unfold xg1 xa8;rw[if_neg hc0];rfl
  clear hrow;go_enter Tryz.func148,Tryz.ntmps148;go_wp2
  go_ret
  exact⟨xbg HM2.out.symm,hb0⟩
theorem xgR:∀ (q:List QI) (i:Nat) (t:Int),(xbe q).set (i*5+1) (.int .i64 t)=xbe (q.modify i fun y=>{ y with a:=t })
 | [],i,t=>by simp[xbe]
 | p :: q,0,t=>by simp[xbe]
 | p :: q,i+1,t=>by
  rw[show (i+1)*5+1=i*5+1+1+1+1+1+1 by omega]
  simp only[xbe,List.set_cons_succ,List.modify_succ_cons];rw[xgR q i t]
theorem OwnI.setA {w:World}{B g o cap:Nat}{code:List QI}(h:OwnI w B (some ⟨g,o,none⟩) cap code){p:Nat}(hp:p<code.length)(t:Int):OwnI (w.setCell ⟨g,o+p*5+1,none⟩ (.int .i64 t)) B (some ⟨g,o,none⟩) cap (code.modify p fun y=>{ y with a:=t }):=by
 obtain⟨h1,h2 | ⟨g',o',c',cur,e,h3,h4,h5,h6,h7,h8⟩⟩:=h
 ·have:=h2.2;omega
 ·cases e
  unfold OwnI;rw[List.length_modify];refine⟨by rw[xdq,List.length_modify],Or.inr ⟨g,o,cap,_,rfl,h3,xae h4 _,h5,h6,by simpa using h7,?_⟩⟩
  rw[← xgR,← h8];simp only[Array.toList_setIfInBounds,List.drop_set,List.take_set];rw[if_neg (by omega),show o+p*5+1-o=p*5+1 by omega,List.take_set]
theorem xp3 {P Q:Nat->Prop}(code plain:List QI)(begins:List Int)(g o cap B:Nat)(kv bv:Value)(w:World)(hO:OwnI w B (some ⟨g,o,none⟩) cap code)(hP:xaG P w kv plain)(hQ:xfp Q w bv begins)(hPg:∀ b,P b->b≠g)(hQg:∀ b,Q b->b≠g)(hlen:begins.length=plain.length)(hl60:plain.length<=60)(hin:∀ b∈begins,0<=b/\b<(code.length:Int)) :
  Calls Tryz.prog 154 #[.slice (some ⟨g,o,none⟩) code.length cap,kv,bv] w fun e w'=>e=.returned (.tuple #[])/\OwnI w' B (some ⟨g,o,none⟩) cap (xdQ begins plain code plain.length)/\Below B w w'/\∀ b,b<w.heap.size->b≠g->w'.heap[b]?=w.heap[b]?:=by
 obtain⟨ak,ck,rfl,-,hck,-,hrowP⟩:=id hP;obtain⟨ab,cb,rfl,-,hcb,-,hrowQ⟩:=id hQ
 have hcap:code.length<=cap/\cap<=9223372036854775807:=by
  obtain⟨a',c',e,h1,h2⟩:=hO.form
  cases e;unfold maxLen at h2;omega
 unfold maxLen at hck hcb;have hBg:B<=g:=(hO.lt g rfl).1;have hgw:g<w.heap.size:=(hO.lt g rfl).2;generalize hn:code.length=n at *;have HIN:=xcE hin;have HLEN:=xcE hlen;clear hin hlen;go_enter Tryz.func154,Tryz.ntmps154;go_wp2
 go_loopg [10] plain.length (fun gk iv wr=>∃ j:Nat,j+gk=plain.length/\iv=.int .i64 (j:Int)/\OwnI wr B (some ⟨g,o,none⟩) cap (xdQ begins plain code j)/\Below B w wr/\(∀ b,b<w.heap.size->b≠g->wr.heap[b]?=w.heap[b]?)/\w.heap.size<=wr.heap.size)
 case atStart=>exact⟨0,by omega,rfl,hO,Below.refl _ _,fun _ _ _=>rfl,qzC _⟩
 case round=>
  clear hO;obtain⟨j,hj,rfl,hO,hb,hblk,hsz⟩:=hrel;have hlj:(xdQ begins plain code j).length=n:=by rw[xdE,hn]
  by_cases hlt:j<plain.length
  ·have hxj:plain[j]?=some plain[j]:=by simp[hlt]
   obtain⟨pz,hbj⟩:∃ pz,begins[j]?=some pz:=⟨begins[j]'(by have:=HLEN.out;omega),by simp⟩
   have hpz:=HIN.out pz (List.mem_of_getElem? hbj);obtain⟨p,rfl⟩:∃ p:Nat,pz=(p:Int):=⟨pz.toNat,by omega⟩
   obtain⟨b1,o1,rfl,hPb,u0,u1,u2,u3,u4,-⟩:=hrowP j _ hxj;obtain⟨bb,ob,rfl,hQb,y0⟩:=hrowQ j _ hbj;generalize plain[j]=x at *;have hb1l:b1<w.heap.size:=World.block_lt_of_cell? w _ u0;have hbbl:bb<w.heap.size:=World.block_lt_of_cell? w _ y0;have hcell:∀ (b o:Nat) v,b<w.heap.size->b≠g->w.cell? ⟨b,o,none⟩=some v->wr.cell? ⟨b,o,none⟩=some v:=fun b o v h1 h2 h=>by unfold World.cell? at h ⊢;rw[hblk b h1 h2];exact h
   simp only[Nat.add_zero] at u0;replace u0:=hcell _ _ _ hb1l (hPg _ hPb) u0;replace u1:=hcell _ _ _ hb1l (hPg _ hPb) u1;replace u2:=hcell _ _ _ hb1l (hPg _ hPb) u2;replace u3:=hcell _ _ _ hb1l (hPg _ hPb) u3;replace u4:=hcell _ _ _ hb1l (hPg _ hPb) u4;replace y0:wr.cell? ⟨bb,ob+j,none⟩=some (.int .i64 (p:Int)):=hcell _ _ _ hbbl (hQg _ hQb) (by simpa [xqf] using y0)
   have hj1:(j:Int)<(plain.length:Int):=by omega
   have hj0:(0:Int)<=(j:Int):=by omega
   have hjb:(j:Int)<(begins.length:Int):=by have:=HLEN.out;omega
   have hbx:=xai wr (.cells #[.int .i64 x.op,.int .i64 x.a,.int .i64 x.b,.int .i64 x.c,.string x.name] 69)
   have HLS:Hid (xdQ begins plain code (j+1)=match xeO begins x with | some t=>(xdQ begins plain code j).modify p (fun y=>{ y with a:=t }) | none=>xdQ begins plain code j):=by
    show _=_
    conv=>lhs;unfold xdQ
    rw[hxj,hbj]
    cases h:xeO begins x with
    | none=>simp only[h]
    | some t=>simp only[h,Int.toNat_natCast]
   have HNX:Hid (xeO begins x=none->∃ j':Nat,j'+(plain.length-(j+1))=plain.length/\Value.int .i64 ((j:Int)+1)=.int .i64 (j':Int)/\OwnI (wr.alloc (.cells #[.int .i64 x.op,.int .i64 x.a,.int .i64 x.b,.int .i64 x.c,.string x.name] 69)) B (some ⟨g,o,none⟩) cap (xdQ begins plain code j')/\Below B w (wr.alloc (.cells #[.int .i64 x.op,.int .i64 x.a,.int .i64 x.b,.int .i64 x.c,.string x.name] 69))/\(∀ b,b<w.heap.size->b≠g->(wr.alloc (.cells #[.int .i64 x.op,.int .i64 x.a,.int .i64 x.b,.int .i64 x.c,.string x.name] 69)).heap[b]?=w.heap[b]?)/\w.heap.size<=(wr.alloc (.cells #[.int .i64 x.op,.int .i64 x.a,.int .i64 x.b,.int .i64 x.c,.string x.name] 69)).heap.size):=fun h=>by
    refine⟨j+1,by omega,by go_num,?_,xfY hb _ (by omega),fun b h1 h2=>by rw[hbx.block b (by omega)];exact hblk b h1 h2,by simp;omega⟩
    rw[HLS.out,h]
    exact hO.alloc _
   have hwj:IntKind.i64.wrap ((j:Int)+1)=(j:Int)+1:=xal (by omega) (by omega)
   clear hxj hbj hcell
   by_cases hjp:(x.op=15\/x.op=16)/\0<=x.a/\x.a<(begins.length:Int)
   ·obtain⟨hop,ha0,ha1⟩:=hjp;obtain⟨xa,hxa⟩:∃ xa:Nat,x.a=(xa:Int):=⟨x.a.toNat,by omega⟩
    obtain⟨tt,htt⟩:∃ tt,begins[xa]?=some tt:=⟨begins[xa]'(by omega),by simp⟩
    have HLD:Hid (xeO begins x=some tt):=by show _=_;unfold xeO;rw[if_pos ⟨hop,ha0⟩,hxa];simpa using htt
    obtain⟨bb',ob',eb,-,t0⟩:=hrowQ xa tt htt
    cases eb
    replace t0:wr.cell? ⟨bb,ob+xa,none⟩=some (.int .i64 tt):=by
     have h:w.cell? ⟨bb,ob+xa,none⟩=some (.int .i64 tt):=by simpa [xqf] using t0
     unfold World.cell? at h ⊢;rw[hblk bb hbbl (hQg _ hQb)];exact h
    have hxa1:(xa:Int)<(begins.length:Int):=by omega
    have hxa0:(0:Int)<=(xa:Int):=by omega
    have hda:decide ((0:Int)<=(xa:Int))=true:=by simp
    have hdb:decide ((xa:Int)<(begins.length:Int))=true:=by simp;omega
    have hp1:(p:Int)<(n:Int):=by omega
    have hp0:(0:Int)<=(p:Int):=by omega
    rw[hxa] at u1;have hO1:OwnI (wr.alloc (.cells #[.int .i64 x.op,.int .i64 (xa:Int),.int .i64 x.b,.int .i64 x.c,.string x.name] 69)) B (some ⟨g,o,none⟩) cap (xdQ begins plain code j):=hO.alloc _;have hset:=xcE (OwnI.setA hO1 (p:=p) (by omega) tt)
    have hgr:g<wr.heap.size:=(hO.lt g rfl).2
    have hcg:∃ u,(wr.alloc (.cells #[.int .i64 x.op,.int .i64 (xa:Int),.int .i64 x.b,.int .i64 x.c,.string x.name] 69)).cell? ⟨g,o+p*5+1,none⟩=some u/\∀ k,(wr.alloc (.cells #[.int .i64 x.op,.int .i64 (xa:Int),.int .i64 x.b,.int .i64 x.c,.string x.name] 69)).frozen? ⟨g,k,none⟩=false:=by
     obtain⟨h1,h2 | ⟨g',o',c',cur,e,h3,h4,h5,h6,h7,h8⟩⟩:=hO1
     ·have:=h2.2;omega
     ·cases e
      refine⟨_,by rw[qzB h4];exact Array.getElem?_eq_getElem (by omega),xb5 h4⟩
    obtain⟨ug,hug,hgf⟩:=hcg;have hbx':=xai wr (.cells #[.int .i64 x.op,.int .i64 (xa:Int),.int .i64 x.b,.int .i64 x.c,.string x.name] 69);have y0':=qzA hbx' y0;have t0':=qzA hbx' t0;have x1':(wr.alloc (.cells #[.int .i64 x.op,.int .i64 (xa:Int),.int .i64 x.b,.int .i64 x.c,.string x.name] 69)).cell? ⟨wr.heap.size,1,none⟩=some (.int .i64 (xa:Int)):=xab _ _ _ _ rfl 1;have HXA:=xcE hxa;have HBB:=xcE (And.intro hblk (And.intro hb hsz));clear hxa ha0 ha1 htt hO hO1 HNX hrowQ hrowP
    have hfin:Hid (∃ j':Nat,j'+(plain.length-(j+1))=plain.length/\Value.int .i64 ((j:Int)+1)=.int .i64 (j':Int)/\OwnI (((wr.alloc (.cells #[.int .i64 x.op,.int .i64 (xa:Int),.int .i64 x.b,.int .i64 x.c,.string x.name] 69))).setCell ⟨g,o+p*5+1,none⟩ (.int .i64 tt)).drew B (some ⟨g,o,none⟩) cap (xdQ begins plain code j')/\Below B w (((wr.alloc (.cells #[.int .i64 x.op,.int .i64 (xa:Int),.int .i64 x.b,.int .i64 x.c,.string x.name] 69))).setCell ⟨g,o+p*5+1,none⟩ (.int .i64 tt)).drew/\(∀ b,b<w.heap.size->b≠g->(((wr.alloc (.cells #[.int .i64 x.op,.int .i64 (xa:Int),.int .i64 x.b,.int .i64 x.c,.string x.name] 69))).setCell ⟨g,o+p*5+1,none⟩ (.int .i64 tt)).drew.heap[b]?=w.heap[b]?)/\w.heap.size<=(((wr.alloc (.cells #[.int .i64 x.op,.int .i64 (xa:Int),.int .i64 x.b,.int .i64 x.c,.string x.name] 69))).setCell ⟨g,o+p*5+1,none⟩ (.int .i64 tt)).drew.heap.size):=by
     obtain⟨h1,h2,h3⟩:=HBB.out;refine⟨j+1,by omega,by go_num,?_,((xfY h2 _ (by omega)).setCell hBg _).drew,fun b hb1 hb2=>?_,by simp;omega⟩
     ·rw[HLS.out,HLD.out]
      exact hset.out.keep fun g hg=>rfl
     ·show (World.setCell _ _ _).heap[b]?=_
      rw[xac hb2,hbx'.block b (by omega)]
      exact h1 b hb1 hb2
    rcases hop with hop | hop
    ·have hd15:(x.op == 15)=true:=by simpa using hop
     clear hop
     go_upto_region 4 with (fail)
     generalize (wr.alloc (.cells #[.int .i64 x.op,.int .i64 (xa:Int),.int .i64 x.b,.int .i64 x.c,.string x.name] 69))=V at *;have hS0:V.drew.cell? ⟨bb,ob+j,none⟩=some (.int .i64 (p:Int))/\V.drew.cell? ⟨wr.heap.size,1,none⟩=some (.int .i64 (xa:Int))/\V.drew.cell? ⟨bb,ob+xa,none⟩=some (.int .i64 tt):=⟨y0',x1',t0'⟩;refine xat (S:=fun w'=>w'.cell? ⟨bb,ob+j,none⟩=some (.int .i64 (p:Int))/\w'.cell? ⟨wr.heap.size,1,none⟩=some (.int .i64 (xa:Int))/\w'.cell? ⟨bb,ob+xa,none⟩=some (.int .i64 tt)) [12] (by kernel_rfl) ?_
     refine tk 0 (⟨some 35,.move (.tmp 0),49,_,_,none⟩) (.slice (some ⟨g,o,none⟩) n cap) rfl (hS0) (fun _ _ _ h=>h) rfl (by kernel_rfl) ?_ ?_
     ·intro w hSw;obtain⟨q0,q1,q2⟩:=hSw;go_simp
     try simp only[Act.put,qzF,qzG,qzH]
     refine tk 1 (⟨some 36,.move (.tmp 2),47,_,_,none⟩) (.slice (some ⟨bb,ob,none⟩) begins.length cb) rfl (hS0) (fun _ _ _ h=>h) rfl (by kernel_rfl) ?_ ?_
     ·intro w hSw;obtain⟨q0,q1,q2⟩:=hSw;go_simp
     try simp only[Act.put,qzF,qzG,qzH]
     refine tk 2 (⟨some 37,.move (.tmp 6),3,_,_,none⟩) (.int .i64 (j:Int)) rfl (hS0) (fun _ _ _ h=>h) rfl (by kernel_rfl) ?_ ?_
     ·intro w hSw;obtain⟨q0,q1,q2⟩:=hSw;go_simp
     try simp only[Act.put,qzF,qzG,qzH]
     refine tk 3 (⟨some 38,.indexAddr 47 (.tmp 36) (.tmp 37),0,_,_,none⟩) (.pointer (some ⟨bb,ob+j,none⟩)) rfl (hS0) (fun _ _ _ h=>h) rfl (by kernel_rfl) ?_ ?_
     ·intro w hSw;obtain⟨q0,q1,q2⟩:=hSw;go_simp
     try simp only[Act.put,qzF,qzG,qzH]
     refine tk 4 (⟨some 39,.load 3 (.tmp 38),3,_,_,none⟩) (.int .i64 (p:Int)) rfl (hS0) (fun _ _ _ h=>h) rfl (by kernel_rfl) ?_ ?_
     ·intro w hSw;obtain⟨q0,q1,q2⟩:=hSw;go_simp
     try simp only[Act.put,qzF,qzG,qzH]
     refine tk 5 (⟨some 40,.move (.tmp 2),47,_,_,none⟩) (.slice (some ⟨bb,ob,none⟩) begins.length cb) rfl (hS0) (fun _ _ _ h=>h) rfl (by kernel_rfl) ?_ ?_
     ·intro w hSw;obtain⟨q0,q1,q2⟩:=hSw;go_simp
     try simp only[Act.put,qzF,qzG,qzH]
     refine tk 6 (⟨some 41,.fieldAddr 69 (.tmp 7) 1,0,_,_,none⟩) (.pointer (some ⟨wr.heap.size,1,none⟩)) rfl (hS0) (fun _ _ _ h=>h) rfl (by kernel_rfl) ?_ ?_
     ·intro w hSw;obtain⟨q0,q1,q2⟩:=hSw;go_simp
     try simp only[Act.put,qzF,qzG,qzH]
     refine tk 7 (⟨some 42,.load 3 (.tmp 41),3,_,_,none⟩) (.int .i64 (xa:Int)) rfl (hS0) (fun _ _ _ h=>h) rfl (by kernel_rfl) ?_ ?_
     ·intro w hSw;obtain⟨q0,q1,q2⟩:=hSw;go_simp
     try simp only[Act.put,qzF,qzG,qzH]
     refine tk 8 (⟨some 43,.indexAddr 47 (.tmp 40) (.tmp 42),0,_,_,none⟩) (.pointer (some ⟨bb,ob+xa,none⟩)) rfl (hS0) (fun _ _ _ h=>h) rfl (by kernel_rfl) ?_ ?_
     ·intro w hSw;obtain⟨q0,q1,q2⟩:=hSw;go_simp
     try simp only[Act.put,qzF,qzG,qzH]
     refine tk 9 (⟨some 44,.load 3 (.tmp 43),3,_,_,none⟩) (.int .i64 tt) rfl (hS0) (fun _ _ _ h=>h) rfl (by kernel_rfl) ?_ ?_
     ·intro w hSw;obtain⟨q0,q1,q2⟩:=hSw;go_simp
     try simp only[Act.put,qzF,qzG,qzH]
     refine tk 10 (⟨some 45,.indexAddr 49 (.tmp 35) (.tmp 39),0,_,_,none⟩) (.pointer (some ⟨g,o+p*5,none⟩)) rfl (hS0) (fun _ _ _ h=>h) rfl (by kernel_rfl) ?_ ?_
     ·intro w hSw;obtain⟨q0,q1,q2⟩:=hSw;go_simp
     try simp only[Act.put,qzF,qzG,qzH]
     refine tk 11 (⟨some 46,.fieldAddr 69 (.tmp 45) 1,0,_,_,none⟩) (.pointer (some ⟨g,o+p*5+1,none⟩)) rfl (hS0) (fun _ _ _ h=>h) rfl (by kernel_rfl) ?_ ?_
     ·intro w hSw;obtain⟨q0,q1,q2⟩:=hSw;go_simp
     try simp only[Act.put,qzF,qzG,qzH]
     refine xao (rs:=[12]) (by kernel_rfl) (by simp) ?_
     intro i hi;simp only[List.mem_cons,List.not_mem_nil,or_false] at hi;subst hi;refine xa0 (o:=⟨none,.store 3 (.tmp 46) (.tmp 44),0,_,_,none⟩) rfl (fun K' hK=>?_)
     go_simp;refine hK _ _ (fun h=>absurd h (by decide)) ?_
     clear hK K'
     try simp only[Act.put,qzF,qzG,qzH]
     refine xaE (by kernel_rfl) ?_ _
     try simp only[Act.put,qzF,qzG,qzH]
     go_wp2
     go_roundg (plain.length-(j+1))
     case measure=>omega
     case rel=>exact hfin.out
    ·have hd15:(x.op == 15)=false:=by simp[hop]
     have hd16:(x.op == 16)=true:=by simpa using hop
     clear hop
     go_upto_region 4 with (fail)
     generalize (wr.alloc (.cells #[.int .i64 x.op,.int .i64 (xa:Int),.int .i64 x.b,.int .i64 x.c,.string x.name] 69))=V at *;have hS0:V.drew.cell? ⟨bb,ob+j,none⟩=some (.int .i64 (p:Int))/\V.drew.cell? ⟨wr.heap.size,1,none⟩=some (.int .i64 (xa:Int))/\V.drew.cell? ⟨bb,ob+xa,none⟩=some (.int .i64 tt):=⟨y0',x1',t0'⟩;refine xat (S:=fun w'=>w'.cell? ⟨bb,ob+j,none⟩=some (.int .i64 (p:Int))/\w'.cell? ⟨wr.heap.size,1,none⟩=some (.int .i64 (xa:Int))/\w'.cell? ⟨bb,ob+xa,none⟩=some (.int .i64 tt)) [12] (by kernel_rfl) ?_
     refine tk 0 (⟨some 35,.move (.tmp 0),49,_,_,none⟩) (.slice (some ⟨g,o,none⟩) n cap) rfl (hS0) (fun _ _ _ h=>h) rfl (by kernel_rfl) ?_ ?_
     ·intro w hSw;obtain⟨q0,q1,q2⟩:=hSw;go_simp
     try simp only[Act.put,qzF,qzG,qzH]
     refine tk 1 (⟨some 36,.move (.tmp 2),47,_,_,none⟩) (.slice (some ⟨bb,ob,none⟩) begins.length cb) rfl (hS0) (fun _ _ _ h=>h) rfl (by kernel_rfl) ?_ ?_
     ·intro w hSw;obtain⟨q0,q1,q2⟩:=hSw;go_simp
     try simp only[Act.put,qzF,qzG,qzH]
     refine tk 2 (⟨some 37,.move (.tmp 6),3,_,_,none⟩) (.int .i64 (j:Int)) rfl (hS0) (fun _ _ _ h=>h) rfl (by kernel_rfl) ?_ ?_
     ·intro w hSw;obtain⟨q0,q1,q2⟩:=hSw;go_simp
     try simp only[Act.put,qzF,qzG,qzH]
     refine tk 3 (⟨some 38,.indexAddr 47 (.tmp 36) (.tmp 37),0,_,_,none⟩) (.pointer (some ⟨bb,ob+j,none⟩)) rfl (hS0) (fun _ _ _ h=>h) rfl (by kernel_rfl) ?_ ?_
     ·intro w hSw;obtain⟨q0,q1,q2⟩:=hSw;go_simp
     try simp only[Act.put,qzF,qzG,qzH]
     refine tk 4 (⟨some 39,.load 3 (.tmp 38),3,_,_,none⟩) (.int .i64 (p:Int)) rfl (hS0) (fun _ _ _ h=>h) rfl (by kernel_rfl) ?_ ?_
     ·intro w hSw;obtain⟨q0,q1,q2⟩:=hSw;go_simp
     try simp only[Act.put,qzF,qzG,qzH]
     refine tk 5 (⟨some 40,.move (.tmp 2),47,_,_,none⟩) (.slice (some ⟨bb,ob,none⟩) begins.length cb) rfl (hS0) (fun _ _ _ h=>h) rfl (by kernel_rfl) ?_ ?_
     ·intro w hSw;obtain⟨q0,q1,q2⟩:=hSw;go_simp
     try simp only[Act.put,qzF,qzG,qzH]
     refine tk 6 (⟨some 41,.fieldAddr 69 (.tmp 7) 1,0,_,_,none⟩) (.pointer (some ⟨wr.heap.size,1,none⟩)) rfl (hS0) (fun _ _ _ h=>h) rfl (by kernel_rfl) ?_ ?_
     ·intro w hSw;obtain⟨q0,q1,q2⟩:=hSw;go_simp
     try simp only[Act.put,qzF,qzG,qzH]
     refine tk 7 (⟨some 42,.load 3 (.tmp 41),3,_,_,none⟩) (.int .i64 (xa:Int)) rfl (hS0) (fun _ _ _ h=>h) rfl (by kernel_rfl) ?_ ?_
     ·intro w hSw;obtain⟨q0,q1,q2⟩:=hSw;go_simp
     try simp only[Act.put,qzF,qzG,qzH]
     refine tk 8 (⟨some 43,.indexAddr 47 (.tmp 40) (.tmp 42),0,_,_,none⟩) (.pointer (some ⟨bb,ob+xa,none⟩)) rfl (hS0) (fun _ _ _ h=>h) rfl (by kernel_rfl) ?_ ?_
     ·intro w hSw;obtain⟨q0,q1,q2⟩:=hSw;go_simp
     try simp only[Act.put,qzF,qzG,qzH]
     refine tk 9 (⟨some 44,.load 3 (.tmp 43),3,_,_,none⟩) (.int .i64 tt) rfl (hS0) (fun _ _ _ h=>h) rfl (by kernel_rfl) ?_ ?_
     ·intro w hSw;obtain⟨q0,q1,q2⟩:=hSw;go_simp
     try simp only[Act.put,qzF,qzG,qzH]
     refine tk 10 (⟨some 45,.indexAddr 49 (.tmp 35) (.tmp 39),0,_,_,none⟩) (.pointer (some ⟨g,o+p*5,none⟩)) rfl (hS0) (fun _ _ _ h=>h) rfl (by kernel_rfl) ?_ ?_
     ·intro w hSw;obtain⟨q0,q1,q2⟩:=hSw;go_simp
     try simp only[Act.put,qzF,qzG,qzH]
     refine tk 11 (⟨some 46,.fieldAddr 69 (.tmp 45) 1,0,_,_,none⟩) (.pointer (some ⟨g,o+p*5+1,none⟩)) rfl (hS0) (fun _ _ _ h=>h) rfl (by kernel_rfl) ?_ ?_
     ·intro w hSw;obtain⟨q0,q1,q2⟩:=hSw;go_simp
     try simp only[Act.put,qzF,qzG,qzH]
     refine xao (rs:=[12]) (by kernel_rfl) (by simp) ?_
     intro i hi;simp only[List.mem_cons,List.not_mem_nil,or_false] at hi;subst hi;refine xa0 (o:=⟨none,.store 3 (.tmp 46) (.tmp 44),0,_,_,none⟩) rfl (fun K' hK=>?_)
     go_simp;refine hK _ _ (fun h=>absurd h (by decide)) ?_
     clear hK K'
     try simp only[Act.put,qzF,qzG,qzH]
     refine xaE (by kernel_rfl) ?_ _
     try simp only[Act.put,qzF,qzG,qzH]
     go_wp2
     go_roundg (plain.length-(j+1))
     case measure=>omega
     case rel=>exact hfin.out
   ·have HLD:Hid (xeO begins x=none):=by
     show _=_
     unfold xeO
     by_cases h1:(x.op=15\/x.op=16)/\0<=x.a
     ·rw[if_pos h1,List.getElem?_eq_none (by omega)]
     ·rw[if_neg h1]
    have hfin:=xcE (HNX.out HLD.out)
    by_cases h15:x.op=15
    ·have hd15:(x.op == 15)=true:=by simpa using h15
     by_cases ha0:0<=x.a
     ·have hlt2:¬ (x.a<(begins.length:Int)):=fun h=>hjp ⟨Or.inl h15,ha0,h⟩
      clear h15 hjp HNX;go_wp2
      go_roundg (plain.length-(j+1))
      case measure=>omega
      case rel=>exact hfin.out
     ·clear h15 hjp HNX;go_wp2
      go_roundg (plain.length-(j+1))
      case measure=>omega
      case rel=>exact hfin.out
    ·have hd15:(x.op == 15)=false:=by simpa using h15
     by_cases h16:x.op=16
     ·have hd16:(x.op == 16)=true:=by simpa using h16
      by_cases ha0:0<=x.a
      ·have hlt2:¬ (x.a<(begins.length:Int)):=fun h=>hjp ⟨Or.inr h16,ha0,h⟩
       clear h15 h16 hjp HNX;go_wp2
       go_roundg (plain.length-(j+1))
       case measure=>omega
       case rel=>exact hfin.out
      ·clear h15 h16 hjp HNX;go_wp2
       go_roundg (plain.length-(j+1))
       case measure=>omega
       case rel=>exact hfin.out
     ·have hd16:(x.op == 16)=false:=by simpa using h16
      clear h15 h16 hjp HNX;go_wp2
      go_roundg (plain.length-(j+1))
      case measure=>omega
      case rel=>exact hfin.out
  ·obtain rfl:j=plain.length:=by omega
   have HF:=xcE (And.intro hO (And.intro hb hblk));clear hO hb hblk;go_wp2
   exact bodyPost_end (v:=.tuple #[]) (by simp[results,Tryz.results154,go_sem]) rfl ⟨rfl,HF.out.1,HF.out.2.1,HF.out.2.2⟩
end Go.Proofs.YtbafokihegegiaaGreatDoor
