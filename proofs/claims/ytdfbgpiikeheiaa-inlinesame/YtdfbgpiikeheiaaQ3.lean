/- A part. -/
import Derived.Test.YtdfbgpiikeheiaaQ2
namespace Go.Proofs.Ytdfbgpiikeheiaa
open Go.ChangeShapes Go.WideShapes Go.ChangeAt Go.RowKit
set_option linter.unusedSimpArgs false
set_option linter.unusedVariables false
set_option maxHeartbeats 8000000
set_option maxRecDepth 8000
section
variable {σ:Type}
def xod (F:Int)(ent:Ent σ):Prop:=∀ m c n s a,m.sz_<=F->(ent m c n s a).1.sz_<=F/\0<=(ent m c n s a).1.sz_-m.sz_
theorem xkp (E:Env σ)(d:Nat){m:Mc σ}(h:m.sz_<=E.fuel):(xau E d m).1.sz_<=E.fuel/\0<=(xau E d m).1.sz_-m.sz_:=by
 unfold xau
 split
 ·simp only[];omega
 ·split
  ·simp only[];omega
  ·simp only[];omega
theorem xjF {E:Env σ}{ent:Ent σ}(he:xod E.fuel ent)(d:Nat){m:Mc σ}(h:m.sz_<=E.fuel)(f:Fr)(a:Int)(x:QI):(xaj ent E d m f a x).1.sz_<=E.fuel/\0<=(xaj ent E d m f a x).1.sz_-m.sz_:=by
 have self:m.sz_<=E.fuel/\0<=m.sz_-m.sz_:=⟨h,by omega⟩
 have jmp:∀ f a b,(xaV m f a b).1.sz_<=E.fuel/\0<=(xaV m f a b).1.sz_-m.sz_:=fun f a b=>by rw[xe9];exact self
 unfold xaj
 split
 ·exact self
 ·split
  ·exact self
  ·split
   ·exact self
   ·split
    ·exact self
    ·split
     ·exact self
     ·split
      ·rw[xhp];exact self
      ·split
       ·unfold xbD;simp only[]
        split
        ·exact he { m with st:=_ } _ _ _ _ h
        ·exact he { m with st:=_ } _ _ _ _ h
       ·split
        ·exact jmp _ _ _
        ·split
         ·rw[xhe];exact self
         ·unfold xbQ
          split
          ·exact self
          ·split
           ·exact self
           ·split
            ·exact self
            ·split
             ·exact self
             ·split
              ·exact xkp E d h
              ·exact self
theorem xpd {E:Env σ}{ent:Ent σ}(he:xod E.fuel ent)(d:Nat):∀ (g:Nat) {m:Mc σ} (f:Fr),m.sz_<=E.fuel->(xb7 ent E d g m f).1.sz_<=E.fuel/\0<=(xb7 ent E d g m f).1.sz_-m.sz_
 | 0,m,f,h=>⟨h,by show 0<=m.sz_-m.sz_;omega⟩
 | g+1,m,f,h=>by
  have self:m.sz_<=E.fuel/\0<=m.sz_-m.sz_:=⟨h,by omega⟩
  unfold xb7;generalize (if f.pc<0 then none else f.code[f.pc.toNat]?)=q
  cases q with
  | none=>exact self
  | some x=>
   simp only[]
   split
   ·exact self
   ·have h1:=xjF he d h { f with pc:=f.pc+1 } f.pc x
    split
    ·exact h1
    ·have h2:=xpd he d g (xaj ent E d m { f with pc:=f.pc+1 } f.pc x).2.1 h1.1
     exact⟨h2.1,by omega⟩
theorem xkq {E:Env σ}(d:Nat){body:Mc σ->Fr->Mc σ × QV × Int}(hb:∀ {m} f,m.sz_<=E.fuel->(body m f).1.sz_<=E.fuel/\0<=(body m f).1.sz_-m.sz_):xod E.fuel (xbc E d body):=by
 intro m c n s a h;have self:m.sz_<=E.fuel/\0<=m.sz_-m.sz_:=⟨h,by omega⟩
 unfold xbc
 cases xaI E.cz c n with
 | none=>exact self
 | some mt=>
  simp only[]
  split
  ·exact self
  ·split
   ·split
    ·exact self
    ·simp only[];omega
   ·split
    ·exact self
    ·have h1:=xkp E d h;have h2:=hb (xaK E c n mt s a) h1.1
     exact⟨h2.1,by omega⟩
theorem xnc (E:Env σ):∀ d:Nat,xod E.fuel (xa4 E d)
 | 0=>xkq 0 fun f h=>⟨h,by simp only[];omega⟩
 | d+1=>xkq (d+1) fun f h=>xpd (xnc E d) d _ f h
end
def xar (X:QW)(s:QV)(name:ByteArray)(args:List QV)(fuel:Int):Int:=
 if xbr name=false then 7 else if 4<args.length then 5 else if fuel<0\/400<fuel then 3 else if xax X.heap.length s≠0 then xax X.heap.length s else xbo (fun _ v=>xax X.heap.length v) 0 args
def xe1 (X:QW)(fuel:Int):Env Unit:=⟨X.cz,fuel,fun _ _ c name=>((),xaB X.cz c name),xgC⟩
def xlQ (X:QW)(s:QV)(name:ByteArray)(args:List QV)(fuel:Int):Mc Unit × QV × Int:=
 xa4 (xe1 X fuel) 20 ⟨X.heap,0,0,()⟩ (xaB X.cz (xas X.heap s) name).1 (xaB X.cz (xas X.heap s) name).2 s args
structure Ran where
 heap:List QO
 v:QV
 err:Int
 sz_:Int
def xdG (X:QW)(s:QV)(name:ByteArray)(args:List QV)(fuel:Int):Ran:=
 if xar X s name args fuel≠0 then ⟨X.heap,xaU,xar X s name args fuel,0⟩
 else if (xlQ X s name args fuel).2.2≠0 then ⟨X.heap,xaU,(xlQ X s name args fuel).2.2,(xlQ X s name args fuel).1.sz_⟩
 else ⟨(xlQ X s name args fuel).1.heap,(xlQ X s name args fuel).2.1,0,(xlQ X s name args fuel).1.sz_⟩
theorem xfn {X:QW}{s:QV}{name:ByteArray}{args:List QV}{fuel:Int}(h:xar X s name args fuel=0):(0<=fuel/\fuel<=400)/\xax X.heap.length s=0/\VsOk X.heap.length args:=by
 unfold xar at h
 split at h
 ·cases h
 ·split at h
  ·cases h
  ·split at h
   ·cases h
   ·split at h
    ·rename_i k;exact absurd h k
    ·rename_i k1 k2 k3 k4;refine⟨by omega,Decidable.of_not_not k4,fun v hv=>?_⟩
     obtain⟨i,hi,rfl⟩:=List.mem_iff_getElem.1 hv
     exact xbM h i _ (List.getElem?_eq_getElem hi)
theorem xsn {σ:Type}{P M:Nat->Prop}(vis:σ->Nat->QC->σ × Bool)(R:Nat->σ->World->Prop)(p1 p2:Value)(xs:List QC)(c:Int)(s0:σ)(cv hv:Value)(ep:Int)(w:World)(hh:xai P w cv xs)(hhv:∃ a n c,hv=.slice a n c)(hR:R 0 s0 w)(hM:∀ b,M b->b<w.heap.size)
  (hX:∀ j s w',R j s w'->xai P w' cv xs) (hL:∀ j s w' w'',R j s w'->Below w'.heap.size w' w''->R j s w'')
  (hF:∀ (j:Nat) s (k:Nat) x w',j<xs.length+1->R j s w'->xs[k]?=some x->Calls Try.prog 125 #[.int .i64 k,p1,p2] w' fun e w''=>e=.returned (.bool (vis s k x).2)/\R (j+1) (vis s k x).1 w''/\Keeps (fun b=>¬ M b) w' w''/\w'.heap.size<=w''.heap.size) :
  Calls Try.prog 72 #[WV cv hv ep,.int .i64 c,.func (.func 125) #[] #[p1,p2]] w fun e w'=>e=.returned (.tuple #[])/\∃ j,R j (upE vis xs (xs.length+1) c s0) w':=by
 obtain⟨ad,cap,rfl,hl,hcap,hby,hrow⟩:=id hh;obtain⟨ah,nh,ch,rfl⟩:∃ a n c,hv=.slice a n c:=hhv;unfold maxLen at hcap;go_enter Try.func72,Try.ntmps72;go_wp2;have hb0:(w.alloc (Obj.cells #[.slice ad xs.length cap,.slice ah nh ch,.int .i64 ep] 25)).cell? ⟨w.heap.size,0,none⟩=some (.slice ad xs.length cap):=by simp
 have hb1:(w.alloc (Obj.cells #[.slice ad xs.length cap,.slice ah nh ch,.int .i64 ep] 25)).cell? ⟨w.heap.size,1,none⟩=some (.slice ah nh ch):=by simp
 have hb2:(w.alloc (Obj.cells #[.slice ad xs.length cap,.slice ah nh ch,.int .i64 ep] 25)).cell? ⟨w.heap.size,2,none⟩=some (.int .i64 ep):=by simp
 have hMw:¬ M w.heap.size:=fun h=>by have:=hM _ h;omega
 have hRa:=hL 0 s0 w _ hR (xak w (Obj.cells #[.slice ad xs.length cap,.slice ah nh ch,.int .i64 ep] 25));clear hR hrow hh
 go_loopg [1,10] (xs.length+1) (fun g c' i wr=>∃ (j:Nat) (cc:Int) (s:σ),j+g=xs.length+1/\i=.int .i64 j/\c'=.int .i64 cc/\R j s wr/\upE vis xs (xs.length+1) c s0=upE vis xs g cc s/\wr.cell? ⟨w.heap.size,0,none⟩=some (.slice ad xs.length cap)/\wr.cell? ⟨w.heap.size,1,none⟩=some (.slice ah nh ch)/\wr.cell? ⟨w.heap.size,2,none⟩=some (.int .i64 ep))
 case atStart=>exact⟨0,c,s0,by omega,rfl,rfl,hRa,rfl,hb0,hb1,hb2⟩
 case round=>
  obtain⟨j,cc,s,hj,rfl,rfl,hRs,hE,c0,c1,c2⟩:=hrel;have HE:Hid (upE vis xs (xs.length+1) c s0=upE vis xs gk cc s):=hE;clear hE hb0 hb1 hb2 hRa
  by_cases hlt:j<xs.length+1
  ·obtain⟨g',rfl⟩:∃ g',gk=g'+1:=⟨gk-1,by omega⟩
   have hj1:(j:Int)<(xs.length:Int)+1:=by omega
   cases hx:xbx xs cc with
   | none=>
    have hh:xgI xs.length cc=false:=by rw[xdc,hx];rfl
    have HX:Hid (xbx xs cc=none):=hx;clear hx;go_wp2_with fail;refine (xhD _ _ _ _ _ _ _ _ _).mono ?_;rintro e w1 ⟨rfl,hb⟩;rw[hh];go_wp2;refine qzK (v:=.tuple #[]) (by simp[results,Try.results72,go_sem]) rfl ⟨rfl,j,?_⟩
    rw[HE.out];simp only[upE,HX.out]
    exact hL _ _ _ _ hRs hb
   | some x=>
    have hh:xgI xs.length cc=true:=by rw[xdc,hx];rfl
    obtain⟨k,rfl,hxk⟩:=xa7 hx;have HX:Hid (xs[k]?=some x):=hxk;have HC:Hid (xbx xs (k:Int)=some x):=hx;have hk:=xae hxk;clear hx hxk;have hk0:(0:Int)<=(k:Int):=by omega
    have hk1:(k:Int)<(xs.length:Int):=by omega
    go_wp2_with fail;refine (xhD _ _ _ _ _ _ _ _ _).mono ?_;rintro e w1 ⟨rfl,hb⟩;rw[hh];replace hRs:=hL _ _ _ _ hRs hb;replace c0:=qzA hb c0;replace c1:=qzA hb c1;replace c2:=qzA hb c2;clear hb hh;go_wp2_with fail;refine (hF j s k x w1 hlt hRs HX.out).mono ?_;rintro e w2 ⟨rfl,hR2,hK2,-⟩;replace c0:=hK2 _ _ _ hMw c0;replace c1:=hK2 _ _ _ hMw c1;replace c2:=hK2 _ _ _ hMw c2
    cases hv2:(vis s k x).2
    ·go_wp2;refine qzK (v:=.tuple #[]) (by simp[results,Try.results72,go_sem]) rfl ⟨rfl,j+1,?_⟩
     rw[HE.out];simp only[upE,HC.out,Int.toNat_natCast,hv2]
     exact hR2
    ·obtain⟨ad',cap',e',-,-,-,hrow⟩:=hX _ _ _ hR2;simp only[Value.slice.injEq] at e';obtain⟨rfl,-,rfl⟩:=e';obtain⟨b,o,rfl,-,-,hv1,-⟩:=hrow k x HX.out;clear hrow;go_wp2
     go_roundg g'
     case measure=>omega
     case rel=>
      refine⟨j+1,x.super,(vis s k x).1,by omega,by go_num,rfl,hR2,?_,c0,c1,c2⟩
      rw[HE.out];simp only[upE,HC.out,Int.toNat_natCast,hv2,if_true]
  ·obtain rfl:gk=0:=by omega
   go_wp2
   go_end0
   refine⟨rfl,j,?_⟩;rw[HE.out]
   exact hRs
theorem xjS {P:Nat->Prop}(xs:List QC)(cv:Value)(s:Int)(k:Nat)(x:QC)(bs bw:Nat)(w:World)(hne:bs≠bw)(hs:w.heap[bs]?=some (.cells #[.int .i64 s] 3 (0,0)))(hw:w.cell? ⟨bw,0,none⟩=some cv)(hh:xai P w cv xs)(hx:xs[k]?=some x) :
  Calls Try.prog 125 #[.int .i64 k,.pointer (some ⟨bs,0,none⟩),.pointer (some ⟨bw,0,none⟩)] w fun e w''=>e=.returned (.bool true)/\w''.heap[bs]?=some (.cells #[.int .i64 (xef s k x).1] 3 (0,0))/\Keeps (fun b=>b≠bs) w w''/\Below bs w w'':=by
 obtain⟨ad,cap,rfl,hl,hcap,hby,hrow⟩:=id hh;have hk:=xae hx;obtain⟨b,o,rfl,-,hv0,hv1,hv2,-⟩:=hrow k x hx;have hk0:(0:Int)<=(k:Int):=by omega
 have hk1:(k:Int)<(xs.length:Int):=by omega
 have c1:=cell_of_one hs;have f1:=free_of_one hs;have HV:Hid ((xef s k x).1=IntKind.i64.wrap (s+x.slots)):=rfl;generalize (xef s k x).1=u at *;have hwr:IntKind.i64.wrap (s+x.slots)=u:=HV.out.symm;clear hrow hh hx;go_enter Try.func125,Try.ntmps125;go_wp2
 go_region
 all_goals go_wp2
 all_goals go_ret
 all_goals
  refine⟨rfl,?_,?_,?_⟩
  ·first | exact one_setCell (by first | exact hs | simpa using hs) | (rw[HV.out];exact one_setCell (by first | exact hs | simpa using hs))
  ·exact Keeps.of_setCell (fun h=>h rfl) _
  ·first | exact xm1 _ _ _ _ | exact (xm1 _ _ _ _).drew
theorem xkX {P:Nat->Prop}(X:QW)(c:Int)(cv hv:Value)(w:World)(hh:xai P w cv X.cz)(hH:xaD P w hv X.heap):Calls Try.prog 121 #[WV cv hv X.ez,.int .i64 c] w fun e w'=>e=.returned (.int .i64 (xbe X.cz c))/\Below w.heap.size w w':=by
 have hm:=hmf;obtain⟨ad,cap,rfl,hl,hcap,hby,-⟩:=id hh;obtain⟨ah,ch,rfl,-,-,-,-⟩:=id hH;go_enter Try.func121,Try.ntmps121;go_wp2_with fail;refine (xsn (P:=P) (M:=fun b=>b=w.heap.size+1) xef (SlRW (P:=P) w (.slice ad X.cz.length cap) X.cz) _ _ X.cz c 0 _ _ _ _ (hh.later xaA (xbP _ _ _)) ⟨_,_,_,rfl⟩ ?_ ?_ ?_ ?_ ?_).mono ?_
 ·refine⟨xbP _ _ _,hh.later xaA (xbP _ _ _),?_,?_⟩
  ·have:=qzJ (w.alloc (Obj.cells #[Value.slice ad X.cz.length cap,Value.slice ah X.heap.length ch,Value.int .i64 X.ez] 25)) (Obj.cells #[Value.int .i64 0] 3)
   simpa using this
  ·exact qzA (xak _ _) (by rw[xaa _ _ _ _ rfl];rfl)
 ·rintro b rfl;simp
 ·exact fun j s w' h=>h.2.1
 ·rintro j s w' w'' ⟨h1,h2,h3,h4⟩ hb
  exact⟨xaf h1 hb,h2.later xaA hb,by rw[hb.block _ (xal h3)];exact h3,qzA hb h4⟩
 ·rintro j s k x w' hj ⟨h1,h2,h3,h4⟩ hx;refine (xjS X.cz _ s k x (w.heap.size+1) w.heap.size w' (by omega) h3 h4 h2 hx).mono ?_
  rintro e w'' ⟨rfl,k1,k2,k3⟩;refine⟨rfl,⟨h1.trans (k3.mono (by omega)),?_,k1,k2 _ _ _ (by show _≠_;omega) h4⟩,k2.mono fun b hb=>hb,k3.size⟩
  exact hh.later xaA (h1.trans (k3.mono (by omega)))
 ·rintro e w1 ⟨rfl,j,h1,h2,h3,h4⟩;have c1:=cell_of_one h3;go_wp2
  go_ret
  exact⟨rfl,h1⟩
theorem xnv (k n h:Int)(w:World):Calls Try.prog 58 #[.agg #[.int .i64 k,.int .i64 n],.int .i64 h] w fun e w'=>e=.returned (.int .i64 (xcu k n h))/\Below w.heap.size w w':=by
 go_enter Try.func58,Try.ntmps58;go_wp2
 all_goals
  go_ret
  refine⟨xan ?_,(qzL _ _).alloc (qzC _) _⟩
  go_light
  try simp only[beq_iff_eq,bne_iff_ne,ne_eq,beq_eq_false_iff_ne,bne_eq_false_iff_eq] at *
  unfold xcu
  (repeat' split)<;>omega
theorem xhs (v:QV)(h:Int)(w:World):Calls Try.prog 58 #[VV v,.int .i64 h] w fun e w'=>e=.returned (.int .i64 (xax h v))/\Below w.heap.size w w':=xnv v.k v.n h w
def xdJ (n:Nat)(v:QV):Bool:=decide (v.k=4/\0<=v.n/\v.n<n)
theorem xkB (a:Option Addr)(n c:Nat)(v:QV)(w:World):Calls Try.prog 79 #[.slice a n c,VV v] w fun e w'=>e=.returned (.bool (xdJ n v))/\Below w.heap.size w w':=by
 go_enter Try.func79,Try.ntmps79;go_wp2
 all_goals
  go_ret
  refine⟨xby ?_,xak _ _⟩
  go_light
  try simp only[beq_iff_eq,bne_iff_ne,ne_eq,beq_eq_false_iff_ne,bne_eq_false_iff_eq] at *
  unfold xdJ
  simp[*]
  try omega
theorem xgj {h:List QO}{v:QV}(hi:xdJ h.length v=true):∃ (j:Nat) (o:QO),v.n=(j:Int)/\j<h.length/\h[j]?=some o/\xd2 h v=some o:=by
 unfold xdJ at hi;simp only[decide_eq_true_eq] at hi;obtain⟨h1,h2,h3⟩:=hi;have hj:v.n.toNat<h.length:=by omega
 exact⟨v.n.toNat,h[v.n.toNat],by omega,hj,by simp[hj],by unfold xd2;rw[if_pos ⟨h1,h2⟩];simp[hj]⟩
theorem xeI {h:List QO}{v:QV}(hi:xdJ h.length v=false):xd2 h v=none:=by
 unfold xdJ at hi;simp only[decide_eq_false_iff_not] at hi;unfold xd2
 split
 ·rename_i k;exact List.getElem?_eq_none (by omega)
 ·rfl
theorem xe4 {P:Nat->Prop}(hs:List QO)(hv:Value)(v:QV)(w:World)(h:xaD P w hv hs):Calls Try.prog 62 #[hv,VV v] w fun e w'=>e=.returned (.int .i64 (xas hs v))/\Below w.heap.size w w':=by
 have hb1:=xak w (.cells #[.int .i64 v.k,.int .i64 v.n] 27);have h1:=h.later xaE hb1;have b0:(w.alloc (.cells #[.int .i64 v.k,.int .i64 v.n] 27)).cell? ⟨w.heap.size,0,none⟩=some (.int .i64 v.k):=xaa _ _ _ _ rfl 0;have b1:(w.alloc (.cells #[.int .i64 v.k,.int .i64 v.n] 27)).cell? ⟨w.heap.size,1,none⟩=some (.int .i64 v.n):=xaa _ _ _ _ rfl 1;obtain⟨a,cap,rfl,-,hcap,-,-⟩:=id h;unfold maxLen at hcap;clear h;go_enter Try.func62,Try.ntmps62
 go_upto_region 1 with (fail)
 generalize (w.alloc (.cells #[.int .i64 v.k,.int .i64 v.n] 27))=W at *
 by_cases h0:v.k=0
 ·have HE:Hid (xas hs v=1):=by show _=_;unfold xas;rw[if_pos h0]
  have h0':(v.k == 0)=true:=by simpa using h0
  go_wp2
  go_ret
  exact⟨xan HE.out.symm,hb1⟩
 have h0':(v.k == 0)=false:=by simpa using h0
 by_cases h12:v.k=1
 ·have HE:Hid (xas hs v=2):=by show _=_;unfold xas;rw[if_neg h0,if_pos (Or.inl h12)]
  have h12':(v.k == 1)=true:=by simpa using h12
  go_wp2
  go_ret
  exact⟨xan HE.out.symm,hb1⟩
 have h12':(v.k == 1)=false:=by simpa using h12
 by_cases h22:v.k=2
 ·have HE:Hid (xas hs v=2):=by show _=_;unfold xas;rw[if_neg h0,if_pos (Or.inr h22)]
  have h22':(v.k == 2)=true:=by simpa using h22
  go_wp2
  go_ret
  exact⟨xan HE.out.symm,hb1⟩
 have h22':(v.k == 2)=false:=by simpa using h22
 by_cases h3:v.k=3
 ·have HE:Hid (xas hs v=3):=by show _=_;unfold xas;rw[if_neg h0,if_neg (by omega),if_pos h3]
  have h3':(v.k == 3)=true:=by simpa using h3
  go_wp2
  go_ret
  exact⟨xan HE.out.symm,hb1⟩
 have h3':(v.k == 3)=false:=by simpa using h3
 have HE:Hid (xas hs v=((xd2 hs v).map QO.cls).getD 0):=by show _=_;unfold xas;rw[if_neg h0,if_neg (by omega),if_neg h3]
 clear h0 h12 h22 h3;go_wp2_with fail;refine (xkB a hs.length cap v _).mono ?_;rintro e w1 ⟨rfl,hb2⟩;have c1:=qzA hb2 b1;have h2:=h1.later xaE hb2
 cases hi:xdJ hs.length v with
 | false=>
  have HN:=hid (xeI hi);go_wp2
  go_ret
  exact⟨xan (by rw[HE.out,HN.out];rfl),xaf hb1 hb2⟩
 | true=>
  obtain⟨j,o,hj,hjl,hjo,hob⟩:=xgj hi;have HN:=hid hob;rw[hj] at c1;obtain⟨a',cap',e,-,-,-,hrow⟩:=h2
  cases e
  obtain⟨b,of,rfl,-,e0,-⟩:=hrow j o hjo;simp only[Nat.add_zero] at e0;have hj1:(j:Int)<(hs.length:Int):=by omega
  have hj0:(0:Int)<=(j:Int):=by omega
  clear hj hjo hob hrow;go_wp2
  go_ret
  exact⟨xan (by rw[HE.out,HN.out];rfl),xaf hb1 hb2⟩
theorem xiJ {P:Nat->Prop}(hs:List QO)(hv:Value)(v:QV)(n:Int)(w:World)(h:xaD P w hv hs):Calls Try.prog 119 #[hv,VV v,.int .i64 n] w fun e w'=>e=.returned (VV (xcF hs v n))/\Below w.heap.size w w':=by
 have hb1:=xbP w (.cells #[.int .i64 v.k,.int .i64 v.n] 27) (.cells #[.int .i64 0,.int .i64 0] 27);have h1:=h.later xaE hb1;have b0:((w.alloc (.cells #[.int .i64 v.k,.int .i64 v.n] 27)).alloc (.cells #[.int .i64 0,.int .i64 0] 27)).cell? ⟨w.heap.size,0,none⟩=some (.int .i64 v.k):=qzA (xak _ _) (xaa _ _ _ _ rfl 0);have b1:((w.alloc (.cells #[.int .i64 v.k,.int .i64 v.n] 27)).alloc (.cells #[.int .i64 0,.int .i64 0] 27)).cell? ⟨w.heap.size,1,none⟩=some (.int .i64 v.n):=qzA (xak _ _) (xaa _ _ _ _ rfl 1);have r0:((w.alloc (.cells #[.int .i64 v.k,.int .i64 v.n] 27)).alloc (.cells #[.int .i64 0,.int .i64 0] 27)).cell? ⟨w.heap.size+1,0,none⟩=some (.int .i64 0):=xaa _ _ _ _ (by simp) 0
 have r1:((w.alloc (.cells #[.int .i64 v.k,.int .i64 v.n] 27)).alloc (.cells #[.int .i64 0,.int .i64 0] 27)).cell? ⟨w.heap.size+1,1,none⟩=some (.int .i64 0):=xaa _ _ _ _ (by simp) 1
 have rf:∀ o,((w.alloc (.cells #[.int .i64 v.k,.int .i64 v.n] 27)).alloc (.cells #[.int .i64 0,.int .i64 0] 27)).frozen? ⟨w.heap.size+1,o,none⟩=false:=fun o=>xap (cur:=#[.int .i64 0,.int .i64 0]) (t:=27) (by have:=qzJ (w.alloc (.cells #[.int .i64 v.k,.int .i64 v.n] 27)) (.cells #[.int .i64 0,.int .i64 0] 27);simpa using this) o
 have hz:((w.alloc (.cells #[.int .i64 v.k,.int .i64 v.n] 27)).alloc (.cells #[.int .i64 0,.int .i64 0] 27)).heap.size=w.heap.size+2:=by simp
 obtain⟨a,cap,rfl,-,hcap,-,-⟩:=id h;unfold maxLen at hcap;clear h;go_enter Try.func119,Try.ntmps119
 go_upto_region 1 with (fail)
 generalize ((w.alloc (.cells #[.int .i64 v.k,.int .i64 v.n] 27)).alloc (.cells #[.int .i64 0,.int .i64 0] 27))=W at *;go_wp2_with fail;refine (xkB a hs.length cap v _).mono ?_;rintro e w1 ⟨rfl,hb2⟩;have c1:=qzA hb2 b1;have h2:=h1.later xaE hb2;have s0:=qzA hb2 r0;have s1:=qzA hb2 r1;have sf:∀ o,w1.frozen? ⟨w.heap.size+1,o,none⟩=false:=fun o=>(hb2.frozen (p:=⟨w.heap.size+1,o,none⟩) (by simp only[hz];omega)).trans (rf o)
 have HB:=hid (xaf hb1 hb2);clear hz b0 b1 r0 r1 rf hb1 hb2 h1
 cases hi:xdJ hs.length v with
 | false=>
  have HN:=hid (xeI hi);go_wp2;refine qzK (v:=VV xaU) ?_ rfl ⟨by unfold xcF;rw[HN.out];rfl,(HB.out.setCell (by simp) _).setCell (by simp) _⟩
  simp[results,Try.results119,go_sem,s0,s1]
 | true=>
  obtain⟨j,o,hj,hjl,hjo,hob⟩:=xgj hi;have HN:Hid (xcF hs v n=xaM o.slots n):=by show _=_;unfold xcF;rw[hob];rfl
  rw[hj] at c1;obtain⟨a',cap',e,-,-,-,hrow⟩:=h2
  cases e
  obtain⟨b,of,rfl,-,e0,sv,e1,hsl⟩:=hrow j o hjo;obtain⟨a2,c2,rfl,-,hcap2,-,hrow2⟩:=hsl;unfold maxLen at hcap2;have hj1:(j:Int)<(hs.length:Int):=by omega
  have hj0:(0:Int)<=(j:Int):=by omega
  clear hj hjo hob hrow hi
  by_cases hn:n<0
  ·have HX:Hid (xaM o.slots n=xaU):=by show _=_;unfold xaM;rw[if_pos hn]
   have hn':decide (n<0)=true:=by simpa using hn
   go_wp2;refine qzK (v:=VV xaU) ?_ rfl ⟨by rw[HN.out,HX.out],(HB.out.setCell (by simp) _).setCell (by simp) _⟩
   simp[results,Try.results119,go_sem,s0,s1]
  ·have hn':decide (n<0)=false:=by simpa using hn
   obtain⟨k,rfl⟩:∃ k:Nat,n=k:=⟨n.toNat,by omega⟩
   by_cases hk:k<o.slots.length
   ·have hx:o.slots[k]?=some o.slots[k]:=by simp[hk]
    have HX:Hid (xaM o.slots k=o.slots[k]):=by show _=_;unfold xaM;rw[if_neg hn];simp[hk]
    generalize o.slots[k]=x at *;obtain⟨b3,o3,rfl,-,x0,x1⟩:=hrow2 k x hx;simp only[Nat.add_zero] at x0;have hk1:(k:Int)<(o.slots.length:Int):=by omega
    have hk2:¬ ((o.slots.length:Int)<=(k:Int)):=by omega
    go_wp2;refine qzK (v:=VV x) ?_ rfl ⟨by rw[HN.out,HX.out],(HB.out.setCell (by simp) _).setCell (by simp) _⟩
    simp[results,Try.results119,go_sem,s0,s1]
   ·have HX:Hid (xaM o.slots k=xaU):=by show _=_;unfold xaM;rw[if_neg hn];simp[hk]
    have hk2:((o.slots.length:Int)<=(k:Int)):=by omega
    go_wp2;refine qzK (v:=VV xaU) ?_ rfl ⟨by rw[HN.out,HX.out],(HB.out.setCell (by simp) _).setCell (by simp) _⟩
    simp[results,Try.results119,go_sem,s0,s1]
theorem xde (b:Bool)(w:World):Calls Try.prog 108 #[.bool b] w fun e w'=>e=.returned (VV ⟨if b then 2 else 1,0⟩)/\Below w.heap.size w w':=by
 cases b
 ·go_enter Try.func108,Try.ntmps108;go_wp2;refine qzK (v:=VV ⟨1,0⟩) ?_ rfl ⟨rfl,xak _ _⟩
  simp[results,Try.results108,go_sem]
 ·go_enter Try.func108,Try.ntmps108;go_wp2;refine qzK (v:=VV ⟨2,0⟩) ?_ rfl ⟨rfl,xak _ _⟩
  simp[results,Try.results108,go_sem]
theorem xed (n:Int)(w:World)(h:-2000000000000000000<=n/\n<=2000000000000000000):Calls Try.prog 107 #[.int .i64 n] w fun e w'=>e=.returned (VV ⟨3,n.tmod 1073741825⟩)/\Below w.heap.size w w':=by
 go_enter Try.func107,Try.ntmps107;go_wp2;refine qzK (v:=VV ⟨3,n.tmod 1073741825⟩) ?_ rfl ⟨rfl,xak _ _⟩
 simp[results,Try.results107,go_sem]
theorem xmL {a b:Int}(ha:-1073741824<=a/\a<=1073741824)(hb:-1073741824<=b/\b<=1073741824):-2000000000000000000<=a*b/\a*b<=2000000000000000000:=by
 have h1:a.natAbs<=1073741824:=by omega
 have h2:b.natAbs<=1073741824:=by omega
 have h3:(a*b).natAbs<=1073741824*1073741824:=by rw[Int.natAbs_mul];exact Nat.mul_le_mul h1 h2
 omega
structure PmR (w:World)(a b:QV)(w':World):Prop where
 bel:Below w.heap.size w w'
 a0:w'.cell? ⟨w.heap.size,0,none⟩=some (.int .i64 a.k)
 a1:w'.cell? ⟨w.heap.size,1,none⟩=some (.int .i64 a.n)
 b0:w'.cell? ⟨w.heap.size+1,0,none⟩=some (.int .i64 b.k)
 b1:w'.cell? ⟨w.heap.size+1,1,none⟩=some (.int .i64 b.n)
 r0:w'.cell? ⟨w.heap.size+2,0,none⟩=some (.int .i64 0)
 r1:w'.cell? ⟨w.heap.size+2,1,none⟩=some (.int .i64 0)
 rf:∀ o,w'.frozen? ⟨w.heap.size+2,o,none⟩=false
 sz:w.heap.size+3<=w'.heap.size
theorem PmR.later {w:World}{a b:QV}{w' w'':World}(h:PmR w a b w')(hb:Below w'.heap.size w' w''):PmR w a b w'':=
 ⟨xaf h.bel hb,qzA hb h.a0,qzA hb h.a1,qzA hb h.b0,qzA hb h.b1,qzA hb h.r0,qzA hb h.r1,fun o=>(hb.frozen (p:=⟨w.heap.size+2,o,none⟩) (by have:=h.sz;simp only;omega)).trans (h.rf o),qzD h.sz hb.size⟩
theorem xm5 (w:World)(a b:QV):PmR w a b (((w.alloc (.cells #[.int .i64 a.k,.int .i64 a.n] 27)).alloc (.cells #[.int .i64 b.k,.int .i64 b.n] 27)).alloc (.cells #[.int .i64 0,.int .i64 0] 27)):=by
 refine⟨xfL _ _ _ _,qzA (xbP _ _ _) (xaa _ _ _ _ rfl 0),qzA (xbP _ _ _) (xaa _ _ _ _ rfl 1),qzA (xak _ _) (xaa _ _ _ _ (by simp) 0),qzA (xak _ _) (xaa _ _ _ _ (by simp) 1),xaa _ _ _ _ (by simp) 0,xaa _ _ _ _ (by simp) 1,fun o=>xap (cur:=#[.int .i64 0,.int .i64 0]) (t:=27) ?_ o,by simp⟩
 have:=qzJ ((w.alloc (.cells #[.int .i64 a.k,.int .i64 a.n] 27)).alloc (.cells #[.int .i64 b.k,.int .i64 b.n] 27)) (.cells #[.int .i64 0,.int .i64 0] 27)
 simpa using this
theorem xoG (p:Int)(a b:QV)(w:World)(ha:a.k=3->-1073741824<=a.n/\a.n<=1073741824)(hb:b.k=3->-1073741824<=b.n/\b.n<=1073741824):Calls Try.prog 99 #[.int .i64 p,VV a,VV b] w fun e w'=>e=.returned (.tuple #[VV (xbR p a b).1,.int .i64 (xbR p a b).2])/\Below w.heap.size w w':=by
 have hR:=xm5 w a b;go_enter Try.func99,Try.ntmps99
 go_upto_region 1 with (fail)
 generalize (((w.alloc (.cells #[.int .i64 a.k,.int .i64 a.n] 27)).alloc (.cells #[.int .i64 b.k,.int .i64 b.n] 27)).alloc (.cells #[.int .i64 0,.int .i64 0] 27))=W at *;obtain⟨-,a0,a1,b0,b1,r0,r1,rf,sz⟩:=id hR;simp only[Nat.add_assoc,Nat.reduceAdd] at *
 by_cases hk:a.k=3/\b.k=3
 ·have hab:=And.intro (ha hk.1) (hb hk.2);have ak:(a.k == 3)=true:=by simpa using hk.1
  have bk:(b.k == 3)=true:=by simpa using hk.2
  have ak':(a.k != 3)=false:=by simpa using hk.1
  have bk':(b.k != 3)=false:=by simpa using hk.2
  have hP:xbR p a b=if p=1 then (⟨3,(a.n+b.n).tmod 1073741825⟩,0) else if p=2 then (⟨3,(a.n-b.n).tmod 1073741825⟩,0) else if p=3 then (⟨3,(a.n*b.n).tmod 1073741825⟩,0) else if p=4 then (⟨if a.n<b.n then 2 else 1,0⟩,0) else if p=5 then (⟨if a.n=b.n then 2 else 1,0⟩,0) else (xaU,1):=by unfold xbR;rw[if_neg (by omega)]
  have wadd:IntKind.i64.wrap (a.n+b.n)=a.n+b.n:=xat (by omega) (by omega)
  have wsub:IntKind.i64.wrap (a.n-b.n)=a.n-b.n:=xat (by omega) (by omega)
  have hm:=xmL hab.1 hab.2;have wmul:IntKind.i64.wrap (a.n*b.n)=a.n*b.n:=xat (by omega) (by omega)
  have hA:=hid hab;have hM:=hid hm;clear hab hm ha hb hk
  by_cases hp1:p=1
  ·have hV:Hid (xbR p a b=(⟨3,(a.n+b.n).tmod 1073741825⟩,0)):=by show _=_;rw[hP];rw[if_pos hp1]
   have hq1:(p == 1)=true:=by simpa using hp1
   clear hP;go_wp2_with fail;refine (xed (a.n+b.n) _ (by have:=hA.out;omega)).mono ?_
   rintro e w1 ⟨rfl,hb1⟩;have hR1:=hR.later hb1;clear a0 a1 b0 b1 r0 r1 rf hR;obtain⟨-,a0,a1,b0,b1,r0,r1,rf,-⟩:=id hR1;go_wp2;refine qzK (v:=.tuple #[VV ⟨3,(a.n+b.n).tmod 1073741825⟩,.int .i64 0]) ?_ rfl ⟨by rw[hV.out],(hR1.bel.setCell (by simp) _).setCell (by simp) _⟩
   simp[results,Try.results99,go_sem,r0,r1]
  have hq1:(p == 1)=false:=by simpa using hp1
  by_cases hp2:p=2
  ·have hV:Hid (xbR p a b=(⟨3,(a.n-b.n).tmod 1073741825⟩,0)):=by show _=_;rw[hP];rw[if_neg hp1];rw[if_pos hp2]
   have hq2:(p == 2)=true:=by simpa using hp2
   clear hP;go_wp2_with fail;refine (xed (a.n-b.n) _ (by have:=hA.out;omega)).mono ?_
   rintro e w1 ⟨rfl,hb1⟩;have hR1:=hR.later hb1;clear a0 a1 b0 b1 r0 r1 rf hR;obtain⟨-,a0,a1,b0,b1,r0,r1,rf,-⟩:=id hR1;go_wp2;refine qzK (v:=.tuple #[VV ⟨3,(a.n-b.n).tmod 1073741825⟩,.int .i64 0]) ?_ rfl ⟨by rw[hV.out],(hR1.bel.setCell (by simp) _).setCell (by simp) _⟩
   simp[results,Try.results99,go_sem,r0,r1]
  have hq2:(p == 2)=false:=by simpa using hp2
  by_cases hp3:p=3
  ·have hV:Hid (xbR p a b=(⟨3,(a.n*b.n).tmod 1073741825⟩,0)):=by show _=_;rw[hP];rw[if_neg hp1];rw[if_neg hp2];rw[if_pos hp3]
   have hq3:(p == 3)=true:=by simpa using hp3
   clear hP;go_wp2_with fail;refine (xed (a.n*b.n) _ hM.out).mono ?_;rintro e w1 ⟨rfl,hb1⟩;have hR1:=hR.later hb1;clear a0 a1 b0 b1 r0 r1 rf hR;obtain⟨-,a0,a1,b0,b1,r0,r1,rf,-⟩:=id hR1;go_wp2;refine qzK (v:=.tuple #[VV ⟨3,(a.n*b.n).tmod 1073741825⟩,.int .i64 0]) ?_ rfl ⟨by rw[hV.out],(hR1.bel.setCell (by simp) _).setCell (by simp) _⟩
   simp[results,Try.results99,go_sem,r0,r1]
  have hq3:(p == 3)=false:=by simpa using hp3
  by_cases hp4:p=4
  ·have hq4:(p == 4)=true:=by simpa using hp4
   by_cases hc:a.n<b.n
   ·have hV:Hid (xbR p a b=(⟨2,0⟩,0)):=by show _=_;rw[hP];rw[if_neg hp1];rw[if_neg hp2];rw[if_neg hp3];rw[if_pos hp4,if_pos hc]
    have hd:decide (a.n<b.n)=true:=by simpa using hc
    clear hP hp4 hc;go_wp2_with fail;refine (xde true _).mono ?_;rintro e w1 ⟨rfl,hb1⟩;have hR1:=hR.later hb1;clear a0 a1 b0 b1 r0 r1 rf hR;obtain⟨-,a0,a1,b0,b1,r0,r1,rf,-⟩:=id hR1;go_wp2;refine qzK (v:=.tuple #[VV ⟨2,0⟩,.int .i64 0]) ?_ rfl ⟨by rw[hV.out],(hR1.bel.setCell (by simp) _).setCell (by simp) _⟩
    simp[results,Try.results99,go_sem,r0,r1]
   ·have hV:Hid (xbR p a b=(⟨1,0⟩,0)):=by show _=_;rw[hP];rw[if_neg hp1];rw[if_neg hp2];rw[if_neg hp3];rw[if_pos hp4,if_neg hc]
    have hd:decide (a.n<b.n)=false:=by simpa using hc
    clear hP hp4 hc;go_wp2_with fail;refine (xde false _).mono ?_;rintro e w1 ⟨rfl,hb1⟩;have hR1:=hR.later hb1;clear a0 a1 b0 b1 r0 r1 rf hR;obtain⟨-,a0,a1,b0,b1,r0,r1,rf,-⟩:=id hR1;go_wp2;refine qzK (v:=.tuple #[VV ⟨1,0⟩,.int .i64 0]) ?_ rfl ⟨by rw[hV.out],(hR1.bel.setCell (by simp) _).setCell (by simp) _⟩
    simp[results,Try.results99,go_sem,r0,r1]
  have hq4:(p == 4)=false:=by simpa using hp4
  by_cases hp5:p=5
  ·have hq5:(p == 5)=true:=by simpa using hp5
   by_cases hc:a.n=b.n
   ·have hV:Hid (xbR p a b=(⟨2,0⟩,0)):=by show _=_;rw[hP];rw[if_neg hp1];rw[if_neg hp2];rw[if_neg hp3];rw[if_neg hp4];rw[if_pos hp5,if_pos hc]
    have hd:(a.n == b.n)=true:=by simpa using hc
    clear hP hp5 hc;go_wp2_with fail;refine (xde true _).mono ?_;rintro e w1 ⟨rfl,hb1⟩;have hR1:=hR.later hb1;clear a0 a1 b0 b1 r0 r1 rf hR;obtain⟨-,a0,a1,b0,b1,r0,r1,rf,-⟩:=id hR1;go_wp2;refine qzK (v:=.tuple #[VV ⟨2,0⟩,.int .i64 0]) ?_ rfl ⟨by rw[hV.out],(hR1.bel.setCell (by simp) _).setCell (by simp) _⟩
    simp[results,Try.results99,go_sem,r0,r1]
   ·have hV:Hid (xbR p a b=(⟨1,0⟩,0)):=by show _=_;rw[hP];rw[if_neg hp1];rw[if_neg hp2];rw[if_neg hp3];rw[if_neg hp4];rw[if_pos hp5,if_neg hc]
    have hd:(a.n == b.n)=false:=by simpa using hc
    clear hP hp5 hc;go_wp2_with fail;refine (xde false _).mono ?_;rintro e w1 ⟨rfl,hb1⟩;have hR1:=hR.later hb1;clear a0 a1 b0 b1 r0 r1 rf hR;obtain⟨-,a0,a1,b0,b1,r0,r1,rf,-⟩:=id hR1;go_wp2;refine qzK (v:=.tuple #[VV ⟨1,0⟩,.int .i64 0]) ?_ rfl ⟨by rw[hV.out],(hR1.bel.setCell (by simp) _).setCell (by simp) _⟩
    simp[results,Try.results99,go_sem,r0,r1]
  have hq5:(p == 5)=false:=by simpa using hp5
  have hV:Hid (xbR p a b=(xaU,1)):=by show _=_;rw[hP];rw[if_neg hp1];rw[if_neg hp2];rw[if_neg hp3];rw[if_neg hp4];rw[if_neg hp5]
  clear hP;go_wp2;refine qzK (v:=.tuple #[VV xaU,.int .i64 1]) ?_ rfl ⟨by rw[hV.out],(hR.bel.setCell (by simp) _).setCell (by simp) _⟩
  simp[results,Try.results99,go_sem,r0,r1]
 ·have hN:Hid (xbR p a b=(xaU,12)):=by show _=_;unfold xbR;rw[if_pos (by omega)]
  by_cases ak:a.k=3
  ·have ak':(a.k != 3)=false:=by simpa using ak
   have bk':(b.k != 3)=true:=by simpa using fun h=>hk ⟨ak,h⟩
   clear ak hk ha hb;go_wp2;refine qzK (v:=.tuple #[VV xaU,.int .i64 12]) ?_ rfl ⟨by rw[hN.out],(hR.bel.setCell (by simp) _).setCell (by simp) _⟩
   simp[results,Try.results99,go_sem,r0,r1]
  ·have ak':(a.k != 3)=true:=by simpa using ak
   clear ak hk ha hb;go_wp2;refine qzK (v:=.tuple #[VV xaU,.int .i64 12]) ?_ rfl ⟨by rw[hN.out],(hR.bel.setCell (by simp) _).setCell (by simp) _⟩
   simp[results,Try.results99,go_sem,r0,r1]
structure Mp (σ:Type) where
 E:Env σ
 cv:Value
 ep:Int
 lv:Value
 qv:Value
section
variable {σ:Type}
abbrev MB (p:Mp σ)(m:Mc σ)(calls:Int)(hv:Value):Obj:=.cells #[p.cv,hv,.int .i64 p.ep,.int .i64 p.E.fuel,.int .i64 m.sz_,.int .i64 calls,.int .i64 m.tz,p.lv,p.qv] 109 (0,0)
structure MacAt (p:Mp σ)(T:Nat->Nat)(w:World)(mb:Nat)(m:Mc σ)(calls:Int)(hv:Value)(g:Nat)(s:Nat->Nat):Prop where
 box:w.heap[mb]?=some (MB p m calls hv)
 tag:T mb=1
 heap:HeapSt T w hv g s m.heap
 cls:xai (Fx T w) w p.cv p.E.cz
variable {p:Mp σ} {T T':Nat->Nat} {w w':World} {mb:Nat} {m m':Mc σ} {calls calls':Int} {hv:Value} {g:Nat} {s:Nat->Nat}
theorem MacAt.keep {S:Nat->Prop}(h:MacAt p T w mb m calls hv g s)(e:Ext T T' w)(k:Kp S T w w')(h0:¬ S 0)(h1:¬ S 1)(h2:¬ S 2):MacAt p T' w' mb m calls hv g s:=
 ⟨k.held h.box (by rw[h.tag];exact h1),by rw[e _ (xal h.box)];exact h.tag,h.heap.keep e k h2,h.cls.fx xaA e k h0⟩
theorem MacAt.later (h:MacAt p T w mb m calls hv g s)(hb:Below w.heap.size w w'):MacAt p T w' mb m calls hv g s:=h.keep (S:=fun _=>False) (.refl _ _) (.of_below hb) id id id
theorem MacAt.turn (h:MacAt p T w mb m calls hv g s)(k:Kp (fun t=>t=1) T w w')(hb:w'.heap[mb]?=some (MB p m' calls' hv))(e:m'.heap=m.heap):MacAt p T w' mb m' calls' hv g s:=
 ⟨hb,h.tag,by rw[e];exact h.heap.keep (.refl _ _) k (by omega),h.cls.fx xaA (.refl _ _) k (by omega)⟩
theorem MacAt.c0 (h:MacAt p T w mb m calls hv g s):w.cell? ⟨mb,0,none⟩=some p.cv:=by rw[qzB h.box];rfl
theorem MacAt.c1 (h:MacAt p T w mb m calls hv g s):w.cell? ⟨mb,1,none⟩=some hv:=by rw[qzB h.box];rfl
theorem MacAt.c2 (h:MacAt p T w mb m calls hv g s):w.cell? ⟨mb,2,none⟩=some (.int .i64 p.ep):=by rw[qzB h.box];rfl
theorem MacAt.c3 (h:MacAt p T w mb m calls hv g s):w.cell? ⟨mb,3,none⟩=some (.int .i64 p.E.fuel):=by rw[qzB h.box];rfl
theorem MacAt.c4 (h:MacAt p T w mb m calls hv g s):w.cell? ⟨mb,4,none⟩=some (.int .i64 m.sz_):=by rw[qzB h.box];rfl
theorem MacAt.c5 (h:MacAt p T w mb m calls hv g s):w.cell? ⟨mb,5,none⟩=some (.int .i64 calls):=by rw[qzB h.box];rfl
theorem MacAt.c6 (h:MacAt p T w mb m calls hv g s):w.cell? ⟨mb,6,none⟩=some (.int .i64 m.tz):=by rw[qzB h.box];rfl
theorem MacAt.c7 (h:MacAt p T w mb m calls hv g s):w.cell? ⟨mb,7,none⟩=some p.lv:=by rw[qzB h.box];rfl
theorem MacAt.c8 (h:MacAt p T w mb m calls hv g s):w.cell? ⟨mb,8,none⟩=some p.qv:=by rw[qzB h.box];rfl
theorem xm0 (h:w.heap[mb]?=some (MB p m calls hv))(n:Int):(w.setCell ⟨mb,4,none⟩ (.int .i64 n)).heap[mb]?=some (MB p { m with sz_:=n } calls hv):=by rw[xag h];rfl
theorem xm6 (h:w.heap[mb]?=some (MB p m calls hv))(n:Int):(w.setCell ⟨mb,5,none⟩ (.int .i64 n)).heap[mb]?=some (MB p m n hv):=by rw[xag h];rfl
theorem xpw (h:w.heap[mb]?=some (MB p m calls hv))(n:Int):(w.setCell ⟨mb,6,none⟩ (.int .i64 n)).heap[mb]?=some (MB p { m with tz:=n } calls hv):=by rw[xag h];rfl
theorem xj3 (h:w.heap[mb]?=some (MB p m calls hv))(xs:List QO)(hv':Value):(w.setCell ⟨mb,1,none⟩ hv').heap[mb]?=some (MB p { m with heap:=xs } calls hv'):=by rw[xag h];rfl
theorem xh3 (h:MacAt p T w mb m calls hv g s)(h0:0<=m.sz_)(h1:p.E.fuel<=9000000000000000000):Calls Try.prog 98 #[.pointer (some ⟨mb,0,none⟩)] w fun e w'=>e=.returned (.int .i64 (if p.E.fuel<=m.sz_ then 13 else 0))/\MacAt p T w' mb (if p.E.fuel<=m.sz_ then m else { m with sz_:=m.sz_+1 }) calls hv g s/\Kp (fun t=>t=1) T w w':=by
 have c3:=h.c3;have c4:=h.c4;have cf:=xap h.box;have H:=hid h;clear h
 by_cases hf:p.E.fuel<=m.sz_
 ·rw[if_pos hf,if_pos hf];have hd:decide (p.E.fuel<=m.sz_)=true:=by simpa using hf
  go_enter Try.func98,Try.ntmps98;go_wp2
  go_region
  go_wp2
  go_ret
  exact⟨rfl,H.out.later (qzL _ _).drew,(Kp.refl _ _ _).drew⟩
 ·rw[if_neg hf,if_neg hf];have hd:decide (p.E.fuel<=m.sz_)=false:=by simpa using hf
  have hw:IntKind.i64.wrap (m.sz_+1)=m.sz_+1:=xat (by omega) (by omega)
  go_enter Try.func98,Try.ntmps98;go_wp2
  go_region
  go_wp2
  go_ret
  have k:Kp (fun t=>t=1) T w (w.setCell ⟨mb,4,none⟩ (.int .i64 (m.sz_+1))).drew:=((Kp.refl _ _ _).set (fun _=>H.out.tag) _ _).drew
  exact⟨rfl,H.out.turn k (xm0 H.out.box _) rfl,k⟩
theorem xeO (d:Nat)(h:MacAt p T w mb m calls hv g s)(h0:0<=m.sz_)(h1:p.E.fuel<=9000000000000000000)(hc:calls=20-(d:Int))(hd:d<=20):Calls Try.prog 82 #[.pointer (some ⟨mb,0,none⟩)] w fun e w'=>e=.returned (.int .i64 (xau p.E d m).2)/\MacAt p T w' mb (xau p.E d m).1 calls hv g s/\Kp (fun t=>t=1) T w w':=by
 have c3:=h.c3;have c4:=h.c4;have c5:=h.c5;have cf:=xap h.box;have H:=hid h;clear h
 by_cases hf:p.E.fuel<=m.sz_
 ·have HE:Hid (xau p.E d m=(m,13)):=by show _=_;unfold xau;rw[if_pos hf]
  have hd:decide (p.E.fuel<=m.sz_)=true:=by simpa using hf
  go_enter Try.func82,Try.ntmps82;go_wp2
  go_region
  go_wp2
  go_ret
  rw[HE.out]
  exact⟨rfl,H.out.later (qzL _ _).drew,(Kp.refl _ _ _).drew⟩
 ·have hd1:decide (p.E.fuel<=m.sz_)=false:=by simpa using hf
  by_cases hz:d=0
  ·have HE:Hid (xau p.E d m=(m,14)):=by show _=_;unfold xau;rw[if_neg hf,if_pos hz]
   have hd2:decide (20<=calls)=true:=by simp;omega
   clear hc hz;go_enter Try.func82,Try.ntmps82;go_wp2
   go_region
   go_wp2
   go_ret
   rw[HE.out]
   exact⟨rfl,H.out.later (qzL _ _).drew,(Kp.refl _ _ _).drew⟩
  ·have HE:Hid (xau p.E d m=({ m with sz_:=m.sz_+1 },0)):=by show _=_;unfold xau;rw[if_neg hf,if_neg hz]
   have hd2:decide (20<=calls)=false:=by simp;omega
   have hw:IntKind.i64.wrap (m.sz_+1)=m.sz_+1:=xat (by omega) (by omega)
   clear hc hz;go_enter Try.func82,Try.ntmps82;go_wp2
   go_region
   go_wp2
   go_ret
   rw[HE.out];have k:Kp (fun t=>t=1) T w (w.setCell ⟨mb,4,none⟩ (.int .i64 (m.sz_+1))).drew:=((Kp.refl _ _ _).set (fun _=>H.out.tag) _ _).drew
   exact⟨rfl,H.out.turn k (xm0 H.out.box _) rfl,k⟩
theorem xoM (h:MacAt p T w mb m calls hv g s)(c n:Int):Calls Try.prog 80 #[.pointer (some ⟨mb,0,none⟩),.int .i64 c,.int .i64 n] w fun e w'=>e=.returned (.bool (xaI p.E.cz c n).isSome)/\Below w.heap.size w w':=by
 have c0:=h.c0;obtain⟨a,cap,hcv,hl,hcap,-,hrow⟩:=h.cls;rw[hcv] at c0;unfold maxLen at hcap;clear h
 by_cases h0:c<0
 ·have HE:Hid ((xaI p.E.cz c n).isSome=false):=by show _=_;unfold xaI xbx;rw[if_neg (by omega)];rfl
  have hd:decide (0<=c)=false:=by simpa using h0
  go_enter Try.func80,Try.ntmps80;go_wp2
  go_ret
  exact⟨xby HE.out.symm,qzL _ _⟩
 ·obtain⟨k,rfl⟩:∃ k:Nat,c=k:=⟨c.toNat,by omega⟩
  have hd:decide (0<=(k:Int))=true:=by simp
  by_cases hk:k<p.E.cz.length
  ·have hk1:(k:Int)<(p.E.cz.length:Int):=by omega
   have hx:p.E.cz[k]?=some p.E.cz[k]:=by simp[hk]
   have HM:Hid (xaI p.E.cz (k:Int) n=if 0<=n then p.E.cz[k].mz[n.toNat]? else none):=by show _=_;unfold xaI xbx;simp[hk]
   generalize p.E.cz[k]=x at *
   by_cases hn:n<0
   ·have HE:Hid ((xaI p.E.cz (k:Int) n).isSome=false):=by show _=_;rw[HM.out,if_neg (by omega)];rfl
    have hn':decide (0<=n)=false:=by simpa using hn
    go_enter Try.func80,Try.ntmps80;go_wp2
    go_ret
    exact⟨xby HE.out.symm,qzL _ _⟩
   ·obtain⟨j,rfl⟩:∃ j:Nat,n=j:=⟨n.toNat,by omega⟩
    have hn':decide (0<=(j:Int))=true:=by simp
    obtain⟨b,o,rfl,-,e0,e1,e2,e3,mv,e4,hm⟩:=hrow k x hx;obtain⟨a2,cap2,rfl,-,-,-,-⟩:=hm
    have HE:Hid ((xaI p.E.cz (k:Int) (j:Int)).isSome=decide (j<x.mz.length)):=by
     show _=_
     rw[HM.out,if_pos (by omega)]
     by_cases hj:j<x.mz.length<;>simp[hj]
    clear hrow hx HM
    by_cases hj:j<x.mz.length
    ·have hj1:(j:Int)<(x.mz.length:Int):=by omega
     go_enter Try.func80,Try.ntmps80;go_wp2
     go_ret
     exact⟨xby (by rw[HE.out];simp[hj]),qzL _ _⟩
    ·have hj1:(x.mz.length:Int)<=(j:Int):=by omega
     go_enter Try.func80,Try.ntmps80;go_wp2
     go_ret
     exact⟨xby (by rw[HE.out];simp[hj]),qzL _ _⟩
  ·have HE:Hid ((xaI p.E.cz (k:Int) n).isSome=false):=by show _=_;unfold xaI xbx;simp[hk]
   have hk1:(p.E.cz.length:Int)<=(k:Int):=by omega
   go_enter Try.func80,Try.ntmps80;go_wp2
   go_ret
   exact⟨xby HE.out.symm,qzL _ _⟩
end
section
variable {σ:Type} {p:Mp σ} {T T':Nat->Nat} {w w':World} {mb:Nat} {m m':Mc σ} {calls calls':Int} {hv:Value} {g:Nat} {s:Nat->Nat} {K fb:Nat} {f:Fr} {cv av tv sv kv:Value}
theorem xhU (h:w.heap[fb]?=some (FB f cv av tv sv kv))(n:Int):(w.setCell ⟨fb,12,none⟩ (.int .i64 n)).heap[fb]?=some (FB { f with pc:=n } cv av tv sv kv):=by
 rw[xag h];rfl
theorem FrAt.pcAt (h:FrAt T K w fb f cv av tv sv kv)(k:Kp (fun t=>t=K) T w w')(n:Int)(hb:w'.heap[fb]?=some (FB { f with pc:=n } cv av tv sv kv)):FrAt T K w' fb { f with pc:=n } cv av tv sv kv:=
 h.turn k hb rfl rfl rfl rfl h.stack h.stag h.few
theorem xkz (h:MacAt p T w mb m calls hv g s)(hF:FrAt T K w fb f cv av tv sv kv)(a b:Int)(ht:0<=m.tz/\m.tz<=300):Calls Try.prog 116 #[.pointer (some ⟨mb,0,none⟩),.pointer (some ⟨fb,0,none⟩),.int .i64 a,.int .i64 b] w fun e w'=>e=.returned (.int .i64 (xaV m f a b).2.2)/\MacAt p T w' mb (xaV m f a b).1 calls hv g s/\FrAt T K w' fb (xaV m f a b).2.1 cv av tv sv kv/\Kp (fun t=>t=1\/t=K) T w w':=by
 have hp:=hF.pos;have c6:=h.c6;have cf:=xap h.box;have ff:=xap hF.box;have d12:w.cell? ⟨fb,12,none⟩=some (.int .i64 f.pc):=by rw[qzB hF.box];rfl
 have hne:¬ mb=fb:=fun e=>by have:=h.tag;rw[e,hF.tag] at this;omega
 have hne':¬ fb=mb:=fun e=>hne e.symm
 have H:=hid h;have HF:=hid hF;have kM:∀ w':World,Kp (fun t=>t=1) T w w'->FrAt T K w' fb f cv av tv sv kv:=fun w' k=>hF.keep (.refl _ _) k (by omega) (by omega) (by omega) (by omega)
 clear h hF
 by_cases hb:b<=a
 ·have hb':decide (b<=a)=true:=by simpa using hb
  have hw:IntKind.i64.wrap (m.tz+1)=m.tz+1:=xat (by omega) (by omega)
  have k1:Kp (fun t=>t=1) T w (w.setCell ⟨mb,6,none⟩ (.int .i64 (m.tz+1))):=(Kp.refl _ _ _).set (fun _=>H.out.tag) _ _
  have m1:=H.out.turn (m':={ m with tz:=m.tz+1 }) (calls':=calls) k1 (xpw H.out.box _) rfl
  have f1:=kM _ k1
  by_cases h3:300<m.tz+1
  ·have HE:Hid (xaV m f a b=({ m with tz:=m.tz+1 },f,16)):=by show _=_;unfold xaV;simp only[hb,if_true];rw[if_pos h3]
   have h3':decide (300<m.tz+1)=true:=by simpa using h3
   have K1:=hid k1;have M1:=hid m1;have F1:=hid f1;clear k1 m1 f1 kM;go_enter Try.func116,Try.ntmps116;go_wp2
   go_ret
   rw[HE.out]
   exact⟨rfl,M1.out,F1.out,K1.out.mono fun t h=>Or.inl h⟩
  ·have HE:Hid (xaV m f a b=({ m with tz:=m.tz+1 },{ f with pc:=b },0)):=by show _=_;unfold xaV;simp only[hb,if_true];rw[if_neg h3]
   have h3':decide (300<m.tz+1)=false:=by simpa using h3
   have k2:Kp (fun t=>t=K) T (w.setCell ⟨mb,6,none⟩ (.int .i64 (m.tz+1))) ((w.setCell ⟨mb,6,none⟩ (.int .i64 (m.tz+1))).setCell ⟨fb,12,none⟩ (.int .i64 b)):=(Kp.refl _ _ _).set (fun _=>HF.out.tag) _ _
   have F2:=hid (f1.pcAt k2 b (xhU f1.box b));have M2:=hid (m1.keep (.refl _ _) k2 (by omega) (by omega) (by omega))
   have K2:=hid ((k1.mono (S':=fun t=>t=1\/t=K) fun t h=>Or.inl h).trans (.refl _ _) (k2.mono fun t h=>Or.inr h))
   clear k1 m1 f1 kM k2;go_enter Try.func116,Try.ntmps116;go_wp2
   go_ret
   rw[HE.out]
   exact⟨rfl,M2.out,F2.out,K2.out⟩
 ·have hb':decide (b<=a)=false:=by simpa using hb
  have HE:Hid (xaV m f a b=(m,{ f with pc:=b },0)):=by show _=_;unfold xaV;simp only[hb,if_false];rw[if_neg (by omega)]
  have h3':decide (300<m.tz)=false:=by simp;omega
  have k2:Kp (fun t=>t=K) T w (w.setCell ⟨fb,12,none⟩ (.int .i64 b)):=(Kp.refl _ _ _).set (fun _=>HF.out.tag) _ _
  have F2:=hid (HF.out.pcAt k2 b (xhU HF.out.box b));have M2:=hid (H.out.keep (.refl _ _) k2 (by omega) (by omega) (by omega))
  have K2:=hid (k2.mono (S':=fun t=>t=1\/t=K) fun t h=>Or.inr h)
  clear kM k2;go_enter Try.func116,Try.ntmps116;go_wp2
  go_ret
  rw[HE.out]
  exact⟨rfl,M2.out,F2.out,K2.out⟩
structure PvR (w:World)(a:QV)(w':World):Prop where
 a0:w'.cell? ⟨w.heap.size,0,none⟩=some (.int .i64 a.k)
 a1:w'.cell? ⟨w.heap.size,1,none⟩=some (.int .i64 a.n)
 r0:w'.cell? ⟨w.heap.size+1,0,none⟩=some (.int .i64 0)
 r1:w'.cell? ⟨w.heap.size+1,1,none⟩=some (.int .i64 0)
 rf:∀ o,w'.frozen? ⟨w.heap.size+1,o,none⟩=false
 sz:w.heap.size+2<=w'.heap.size
theorem PvR.later {w:World}{a:QV}{w' w'':World}(h:PvR w a w')(hb:∀ b,w.heap.size<=b->b<w'.heap.size->b<w.heap.size+2->w''.heap[b]?=w'.heap[b]?)(hz:w'.heap.size<=w''.heap.size):PvR w a w'':=by
 have hc:∀ b o v,w.heap.size<=b->b<w.heap.size+2->w'.cell? ⟨b,o,none⟩=some v->w''.cell? ⟨b,o,none⟩=some v:=fun b o v h1 h2 hv=>by
  have hl:=World.block_lt_of_cell? w' ⟨b,o,none⟩ hv;unfold World.cell? at hv ⊢;rw[hb b h1 hl h2];exact hv
 refine⟨hc _ _ _ (qzC _) (by omega) h.a0,hc _ _ _ (qzC _) (by omega) h.a1,hc _ _ _ (by omega) (by omega) h.r0,hc _ _ _ (by omega) (by omega) h.r1,fun o=>?_,qzD h.sz hz⟩
 have:=h.rf o;have hsz:=h.sz;unfold World.frozen? at this ⊢;simp only at this ⊢;rw[hb (w.heap.size+1) (by omega) (by omega) (by omega)];exact this
theorem xny (w:World)(a:QV):PvR w a ((w.alloc (.cells #[.int .i64 a.k,.int .i64 a.n] 27)).alloc (.cells #[.int .i64 0,.int .i64 0] 27)):=by
 refine⟨qzA (xak _ _) (xaa _ _ _ _ rfl 0),qzA (xak _ _) (xaa _ _ _ _ rfl 1),xaa _ _ _ _ (by simp) 0,xaa _ _ _ _ (by simp) 1,fun o=>xap (cur:=#[.int .i64 0,.int .i64 0]) (t:=27) ?_ o,by simp⟩
 have:=qzJ (w.alloc (.cells #[.int .i64 a.k,.int .i64 a.n] 27)) (.cells #[.int .i64 0,.int .i64 0] 27)
 simpa using this
def xba (E:Env σ)(m:Mc σ)(pr:Int)(self:QV)(args:List QV):Mc σ × QV × Int:=if E.fuel<=m.sz_ then (m,xaU,13) else ({ m with sz_:=m.sz_+1 },xbR pr self (xaM args 0))
theorem MacAt.tagged0 (h:MacAt p T w mb m calls hv g s)(t:Nat):MacAt p (xaF T w t) w mb m calls hv g s:=h.keep (S:=fun _=>False) (xaq T w t) (Kp.refl _ _ _) id id id
theorem FrAt.tagged0 (h:FrAt T K w fb f cv av tv sv kv)(t:Nat):FrAt (xaF T w t) K w fb f cv av tv sv kv:=h.keep (S:=fun _=>False) (xaq T w t) (Kp.refl _ _ _) id id id id
theorem xeG {α:Type}{E:Lay α}{sz bytes:Nat}{v:Value}{xs:List α}(h:IsRow E sz bytes (Fx T w) w v xs)(G:Good E sz)(t:Nat):IsRow E sz bytes (Fx (xaF T w t) w) w v xs:=h.fx G (xaq T w t) (Kp.refl (fun _=>False) T w) id
theorem xhG (h:MacAt p T w mb m calls hv g s)(h0:0<=m.sz_)(h1:p.E.fuel<=9000000000000000000)(pr:Int)(self:QV)(args:List QV)(av:Value)(ha:xaO (Fx T w) w av args)(hs:self.k=3->-1073741824<=self.n/\self.n<=1073741824)(hb:(xaM args 0).k=3->-1073741824<=(xaM args 0).n/\(xaM args 0).n<=1073741824) :
  Calls Try.prog 81 #[.pointer (some ⟨mb,0,none⟩),.int .i64 pr,VV self,av] w fun e w'=>e=.returned (.tuple #[VV (xba p.E m pr self args).2.1,.int .i64 (xba p.E m pr self args).2.2])/\(∃ T',Ext T T' w/\MacAt p T' w' mb (xba p.E m pr self args).1 calls hv g s)/\Kp (fun t=>t=1) T w w':=by
 have hlt:=xal h.box;have hR:=xny w self;have hb2:=xbP w (.cells #[.int .i64 self.k,.int .i64 self.n] 27) (.cells #[.int .i64 0,.int .i64 0] 27);have hM:=(h.tagged0 4).later hb2;have hA:=(xeG ha xa1 4).fx xa1 (.refl _ w) (Kp.of_below (S:=fun _=>False) hb2) id
 have hX:=xaq T w 4;have hT4:∀ b,w.heap.size<=b->xaF T w 4 b=4:=fun b hb=>xaJ hb
 obtain⟨a,cap,rfl,-⟩:=id ha;clear ha h;generalize xaF T w 4=T1 at *;go_enter Try.func81,Try.ntmps81
 go_upto_region 1 with (fail)
 generalize ((w.alloc (.cells #[.int .i64 self.k,.int .i64 self.n] 27)).alloc (.cells #[.int .i64 0,.int .i64 0] 27))=W at *;go_wp2_with fail;refine (xh3 hM h0 h1).mono ?_;rintro e w1 ⟨rfl,hM1,hK1⟩;have hA1:=hA.fx xa1 (.refl _ _) hK1 (by omega)
 have hR1:PvR w self w1:=hR.later (fun b hb1 hb2 hb3=>hK1.blk b hb2 (by rw[hT4 b hb1];omega)) hK1.size
 have KW:Hid (Kp (fun t=>t=1) T w w1):=hid (((Kp.of_below hb2).trans hX hK1))
 clear hK1 hA hR hM hb2
 by_cases hf:p.E.fuel<=m.sz_
 ·have HE:Hid (xba p.E m pr self args=(m,xaU,13)):=by show _=_;unfold xba;rw[if_pos hf]
  rw[if_pos hf] at hM1 ⊢;obtain⟨a0,a1,r0,r1,rf,sz⟩:=hR1;go_wp2;refine qzK (v:=.tuple #[VV xaU,.int .i64 13]) ?_ rfl ⟨by rw[HE.out],?_,?_⟩
  ·simp[results,Try.results81,go_sem,r0,r1]
  ·rw[HE.out]
   exact⟨T1,hX,hM1.keep (.refl _ _) (((Kp.refl (fun t=>t=4) _ _).set (fun _=>hT4 _ (by omega)) _ _).set (fun _=>hT4 _ (by omega)) _ _) (by omega) (by omega) (by omega)⟩
  ·exact (KW.out.set (fun h=>absurd h (by omega)) _ _).set (fun h=>absurd h (by omega)) _ _
 ·have HE:Hid (xba p.E m pr self args=({ m with sz_:=m.sz_+1 },xbR pr self (xaM args 0))):=by show _=_;unfold xba;rw[if_neg hf]
  rw[if_neg hf] at hM1 ⊢;have hq:=hR1.later (w'':=w1.drew) (fun b _ _ _=>rfl) (qzC _)
  have hA2:=hA1.later xa1 (qzL _ w1).drew;have hM2:=hM1.later (qzL _ w1).drew;have hS0:w1.drew.cell? ⟨w.heap.size,0,none⟩=some (.int .i64 self.k)/\w1.drew.cell? ⟨w.heap.size,1,none⟩=some (.int .i64 self.n):=⟨hq.a0,hq.a1⟩;have KW2:=hid KW.out.drew;have HQ:=hid hq;have HM2:=hid hM2;have HS:=hid hs;have HBB:=hid hb;clear hA1 hR1 hM1 KW hq hM2 hs hb;have hlt1:w.heap.size≠w.heap.size+1:=by omega
  go_wp2;obtain⟨u,hu⟩:∃ u,u=xaM args 0:=⟨_,rfl⟩;rw[← hu] at HBB HE;have hent:Calls Try.prog 100 #[.slice a args.length cap,.int .i64 0] w1.drew fun e w'=>e=.returned (VV u)/\Below w1.drew.heap.size w1.drew w':=by rw[hu];exact xc7 args _ 0 _ hA2
  clear hu;obtain⟨v1,e1,hr⟩:∃ v1 e1,xbR pr self u=(v1,e1):=⟨_,_,rfl⟩;have hprim:∀ w,Calls Try.prog 99 #[.int .i64 pr,VV self,VV u] w fun e w'=>e=.returned (.tuple #[VV v1,.int .i64 e1])/\Below w.heap.size w w':=fun w=>by have:=xoG pr self u w HS.out HBB.out;rw[hr] at this;exact this
  rw[hr] at HE;clear hr HS HBB;have tokA:True:=trivial
  go_region_held3 (fun w'=>w'.cell? ⟨w.heap.size,0,none⟩=some (.int .i64 self.k)/\w'.cell? ⟨w.heap.size,1,none⟩=some (.int .i64 self.n))
   (first | with_reducible exact hS0 | with_reducible exact hS1 | with_reducible exact hS2 | exact⟨(qzI _ _ _ _ (by simp)).trans ((qzI _ _ _ _ (by simp)).trans hS2.1),(qzI _ _ _ _ (by simp)).trans ((qzI _ _ _ _ (by simp)).trans hS2.2)⟩)
   (first
    | (have _t:=tokA;go_at_call 100;refine hent.mono ?_;rintro e w2 ⟨rfl,hb2⟩;have hS1:=And.intro (qzA hb2 hS0.1) (qzA hb2 hS0.2);clear tokA;have tokB:True:=trivial)
    | (have _t:=tokB;go_at_call 99;refine (hprim _).mono ?_;rintro e w3 ⟨rfl,hb3⟩;have hb13:=xaf hb2 hb3;have hq3:=HQ.out.later (fun b _ hl _=>hb13.block b hl) hb13.size;obtain⟨a0,a1,r0,r1,rf,sz⟩:=hq3;have hS2:=And.intro a0 a1;clear tokB))
  go_wp2;refine qzK (v:=.tuple #[VV v1,.int .i64 e1]) ?_ rfl ⟨by rw[HE.out],?_,?_⟩
  ·simp[results,Try.results81,go_sem,r0,r1]
  ·rw[HE.out]
   exact⟨T1,hX,(HM2.out.later hb13).keep (.refl _ _) (((Kp.refl (fun t=>t=4) _ _).set (fun _=>hT4 _ (by omega)) _ _).set (fun _=>hT4 _ (by omega)) _ _) (by omega) (by omega) (by omega)⟩
  ·exact ((KW2.out.on hb13).set (fun h=>absurd h (by omega)) _ _).set (fun h=>absurd h (by omega)) _ _
end
theorem xis {P:Nat->Prop}(xs:List QV)(v:Value)(w:World)(hh:xaO P w v xs):Calls Try.prog 78 #[v] w fun e w'=>∃ g,e=.returned (.slice (some ⟨g,0,none⟩) xs.length xs.length)/\w'.heap[g]?=some (.cells (xam xs).toArray 27 (0,0))/\w.heap.size<=g/\Below w.heap.size w w':=by
 obtain⟨ad,cap,rfl,hl,hcap,hby,hrow⟩:=hh;have hmk:=xcH xs.length hby;obtain⟨cs,hcs,hsrc⟩:=hrow.cells xa1
 obtain⟨w1,hcp,h2,h3⟩:=xeb (P:=Try.prog) (w.alloc (.cells (madeCells #[.int .i64 0,.int .i64 0] (xs.length*2)) 27)) 28 28 3 27 2 w.heap.size xs.length xs.length ad cap (madeCells #[.int .i64 0,.int .i64 0] (xs.length*2)) 27 cs Try.underlying28 xpW (qzJ w _) hcs.1
  (fun j v hj=>by obtain⟨a,e,h⟩:=hsrc j v hj;exact⟨a,e,qzA (xak _ _) h⟩) (size_madeCells _ _) (hcs.all xa1)
 have HB:=h3 w.heap.size w (xak _ _) (qzC _);have HV:Hid (w1.heap[w.heap.size]?=some (.cells (xam xs).toArray 27 (0,0))):=by show _=_;rw[← xcy (E:=()) hcs];exact h2
 clear h2 h3 hrow hcs hsrc;go_enter Try.func78,Try.ntmps78;go_wp2
 go_ret
 exact⟨_,rfl,HV.out,qzC _,HB⟩
theorem xse {P:Nat->Prop}(x:QM)(v:Value)(w:World)(hh:xaR P w v x.code):Calls Try.prog 77 #[MV x v] w fun e w'=>∃ a c,e=.returned (MV x (.slice a x.code.length c))/\xaR (xrP w w') w' (.slice a x.code.length c) x.code/\Below w.heap.size w w':=by
 obtain⟨ad,cap,rfl,hl,hcap,hby,hrow⟩:=hh;have hmk:=xnh x.code.length hby;obtain⟨cs,hcs,hsrc⟩:=hrow.cells xa2;have hs0:((w.alloc (.cells #[.string x.name,.int .i64 x.args,.int .i64 x.temps,.int .i64 x.prim,.slice ad x.code.length cap] 55)).alloc (.cells #[.string ⟨#[]⟩,.int .i64 0,.int .i64 0,.int .i64 0,.slice none 0 0] 55)).heap.size=w.heap.size+1+1:=by simp
 obtain⟨w1,hcp,h2,h3⟩:=xeb (P:=Try.prog) (((w.alloc (.cells #[.string x.name,.int .i64 x.args,.int .i64 x.temps,.int .i64 x.prim,.slice ad x.code.length cap] 55)).alloc (.cells #[.string ⟨#[]⟩,.int .i64 0,.int .i64 0,.int .i64 0,.slice none 0 0] 55)).alloc (.cells (madeCells #[.int .i64 0,.int .i64 0,.int .i64 0,.int .i64 0,.string ⟨#[]⟩] (x.code.length*5)) 59)) 53 53 3 59 5 _ x.code.length x.code.length ad cap (madeCells #[.int .i64 0,.int .i64 0,.int .i64 0,.int .i64 0,.string ⟨#[]⟩] (x.code.length*5)) 59 cs Try.underlying53 xsz (qzJ _ _) hcs.1
  (fun j v hj=>by obtain⟨a,e,h⟩:=hsrc j v hj;exact⟨a,e,qzA (xfL _ _ _ _) h⟩) (size_madeCells _ _) (hcs.all xa2)
 have HB:=h3 _ _ (xak _ _) (qzC _);have HC:Hid (Cells xeu 5 P w cs x.code):=hcs;rw[hs0] at hcp h2;have h2':=xal h2;have H2:Hid (w1.heap[w.heap.size+1+1]?=some (.cells cs.toArray 59 (0,0))):=h2;obtain⟨hc,hf⟩:=xjm HB;have hst:∀ v,(w1.setCell ⟨w.heap.size,4,none⟩ v).cell? ⟨w.heap.size,4,none⟩=some v:=fun v=>xb5 (v:=.slice ad x.code.length cap) (by rw[hc _ _ (by simp;omega)];simp) v
 have HB':Below w.heap.size w w1:=(xbP _ _ _).trans (HB.mono (by simp;omega))
 clear h2 h3 hrow hcs hsrc HB hs0;go_enter Try.func77,Try.ntmps77;go_wp2;refine qzK (v:=MV x (.slice (some ⟨w.heap.size+1+1,0,none⟩) x.code.length x.code.length)) ?_ rfl ⟨_,_,rfl,?_,?_⟩
 ·simp[results,Try.results77,go_sem,hc]
 ·refine IsRow.keep xa2 (w:=w1) (P:=fun b=>w.heap.size+1+1<=b/\b<w1.heap.size) ?_ ?_ ?_
  ·exact Cells.row (E:=xeu) (sz:=5) (cs:=cs) ⟨HC.out.1,HC.out.2⟩ xa2 ⟨by omega,h2'⟩ H2.out (by simp;rw[List.take_of_length_le];rw[HC.out.1];exact qzC _) (qzC _) (by unfold maxLen;omega) hby
  ·exact xaC (xaC (xaC (xaC (xaC (xaC (Keeps.refl _ _) (fun h=>by have:=h.1;omega) _) (fun h=>by have:=h.1;omega) _) (fun h=>by have:=h.1;omega) _) (fun h=>by have:=h.1;omega) _) (fun h=>by have:=h.1;omega) _) (fun h=>by have:=h.1;omega) _
  ·rintro b ⟨h1,h2⟩;exact⟨by omega,by simpa [xa6] using h2⟩
 ·exact ((((((HB'.setCell (by simp) _).setCell (by simp) _).setCell (by simp) _).setCell (by simp) _).setCell (by simp) _).setCell (by simp) _)
theorem xr5 {P:Nat->Prop}(xs:List QM)(v:Value)(w:World)(hh:xbm P w v xs):Calls Try.prog 59 #[v] w fun e w'=>∃ g,e=.returned (.slice (some ⟨g,0,none⟩) xs.length xs.length)/\OwnSt xfx 5 55 w' g xs xs.length/\w.heap.size<=g/\Below w.heap.size w w':=by
 obtain⟨ad,cap,rfl,hl,hcap,hby,hrow⟩:=hh;have hmk:=xlI xs.length hby;go_enter Try.func59,Try.ntmps59;go_wp2
 go_loopg [11] xs.length (fun g c wr=>∃ j:Nat,j+g=xs.length/\c=.int .i64 j/\Below w.heap.size w wr/\OwnSt xfx 5 55 wr w.heap.size xs j/\w.heap.size<wr.heap.size)
 case atStart=>exact⟨0,by omega,rfl,xak _ _,OwnSt.start _ _ (size_madeCells _ _),by simp⟩
 case round=>
  obtain⟨j,hj,rfl,hbel,hst,hz⟩:=hrel;clear hmk
  by_cases hlt:j<xs.length
  ·obtain⟨b,o,rfl,-,hv0,hv1,hv2,hv3,hsz,sv,hv4,hsl⟩:=hrow j xs[j] (by simp[hlt])
   have hxj:Hid (xs[j]?=some xs[j]):=by show _=_;simp[hlt]
   generalize xs[j]=x at *;simp only[Nat.add_zero] at hv0;have u0:=qzA hbel hv0;have u1:=qzA hbel hv1;have u2:=qzA hbel hv2;have u3:=qzA hbel hv3;have u4:=qzA hbel hv4;have hsl2:=hsl.later xa2 hbel;obtain⟨ad2,cap2,rfl,-,-,-,-⟩:=id hsl2;clear hv0 hv1 hv2 hv3 hv4 hsl hrow;have hj1:(j:Int)<(xs.length:Int):=by omega
   have hj0:(0:Int)<=(j:Int):=by omega
   go_wp2_with fail;refine (xse x _ _ (hsl2.later xa2 (xak _ _))).mono ?_;rintro e w1 ⟨a',c',rfl,hcv,hb⟩;have hb0:=hbel;replace hst:=(hst.later xbq (xak _ _)).later xbq hb;replace hbel:=xea hbel hb;have hz1:wr.heap.size+1<=w1.heap.size:=by have:=hb.size;simpa using this
   obtain⟨⟨cur,k1,k2⟩,k3⟩:=id hst;have f1:∀ o,w1.frozen? ⟨w.heap.size,o,none⟩=false:=fun o=>(by simp[World.frozen?,k1])
   have e0:w1.cell? ⟨w.heap.size,j*5,none⟩=some (cur[j*5]'(by omega)):=(by rw[qzB k1];simp)
   have e1:w1.cell? ⟨w.heap.size,j*5+1,none⟩=some (cur[j*5+1]'(by omega)):=(by rw[qzB k1];simp)
   have e2:w1.cell? ⟨w.heap.size,j*5+2,none⟩=some (cur[j*5+2]'(by omega)):=(by rw[qzB k1];simp)
   have e3:w1.cell? ⟨w.heap.size,j*5+3,none⟩=some (cur[j*5+3]'(by omega)):=(by rw[qzB k1];simp)
   have e4:w1.cell? ⟨w.heap.size,j*5+4,none⟩=some (cur[j*5+4]'(by omega)):=(by rw[qzB k1];simp)
   go_wp2
   go_roundg (gk-1)
   case measure=>omega
   case rel=>
    refine⟨j+1,by omega,by go_num,((((hbel.setCell (qzC _) _).setCell (qzC _) _).setCell (qzC _) _).setCell (qzC _) _).setCell (qzC _) _,?_,by simp;omega⟩
    refine hst.step xbq hxj.out (vs:=[.string x.name,.int .i64 x.args,.int .i64 x.temps,.int .i64 x.prim,.slice a' x.code.length c']) rfl ?_
    exact⟨rfl,rfl,rfl,rfl,hsz,_,rfl,hcv.mono xa2 fun b h=>⟨by have:=h.1;simp at this;omega,h.2⟩⟩
  ·obtain rfl:j=xs.length:=by omega
   go_wp2
   go_ret
   exact⟨_,rfl,hst,qzC _,hbel⟩
structure HRow (w:World)(B:Nat)(s:Nat->Nat)(xs:List QO)(j:Nat):Prop where
 row:∃ cur:Array Value,w.heap[B]?=some (.cells cur 82 (0,0))/\cur.size=xs.length*2
 obj:∀ i x,i<j->xs[i]?=some x->w.cell? ⟨B,i*2,none⟩=some (.int .i64 x.cls)/\w.cell? ⟨B,i*2+1,none⟩=some (.slice (some ⟨s i,0,none⟩) x.slots.length x.slots.length)/\w.heap[s i]?=some (.cells (xam x.slots).toArray 27 (0,0))/\B<s i/\x.slots.length*16<=140737488351232
 inc:∀ i k,i<k->k<j->s i<s k
 lt:∀ i,i<j->s i<w.heap.size
theorem HRow.later {w w':World}{B:Nat}{s:Nat->Nat}{xs:List QO}{j:Nat}(h:HRow w B s xs j)(hb:Below w.heap.size w w'):HRow w' B s xs j:=by
 obtain⟨⟨cur,h1,h2⟩,h3,h4,h5⟩:=h;refine⟨⟨cur,by rw[hb.block _ (xal h1)];exact h1,h2⟩,fun i x hi hx=>?_,h4,fun i hi=>qzE (h5 i hi) hb.size⟩
 obtain⟨e1,e2,e3,e4,e5⟩:=h3 i x hi hx
 exact⟨qzA hb e1,qzA hb e2,by rw[hb.block _ (xal e3)];exact e3,e4,e5⟩
theorem HRow.start {w:World}(s:Nat->Nat)(xs:List QO)(c:Array Value)(hc:c.size=xs.length*2):HRow (w.alloc (.cells c 82)) w.heap.size s xs 0:=
 ⟨⟨c,qzJ w _,hc⟩,fun i x hi _=>by omega,fun i k _ hk=>by omega,fun i hi=>by omega⟩
theorem HRow.step {w:World}{B:Nat}{s:Nat->Nat}{xs:List QO}{j g:Nat}{x:QO}(h:HRow w B s xs j)(hx:xs[j]?=some x)(hg:w.heap[g]?=some (.cells (xam x.slots).toArray 27 (0,0)))(hB:B<g)(hs:∀ i,i<j->s i<g)(hby:x.slots.length*16<=140737488351232) :
  HRow (w.setCells B (j*2) [.int .i64 x.cls,.slice (some ⟨g,0,none⟩) x.slots.length x.slots.length]) B (fun i=>if i=j then g else s i) xs (j+1):=by
 obtain⟨⟨cur,h1,h2⟩,h3,h4,h5⟩:=h;have hj:=xae hx;refine⟨xcm _ _ w ⟨cur,h1,h2⟩,fun i y hi hy=>?_,fun i k hi hk=>?_,fun i hi=>?_⟩
 ·by_cases hij:i=j
  ·subst hij;rw[hx] at hy
   cases hy
   have hc:=fun k (hk:k<2)=>World.cell?_setCells_in B [.int .i64 x.cls,.slice (some ⟨g,0,none⟩) x.slots.length x.slots.length] (i*2) w (fun q hq=>by rw[qzB h1];simp at hq ⊢;omega) k hk
   simp only[if_true]
   exact⟨hc 0 (by omega),hc 1 (by omega),by rw[xa0 (by omega)];exact hg,hB,hby⟩
  ·obtain⟨e1,e2,e3,e4,e5⟩:=h3 i y (by omega) hy
   have ho:=fun k (hk:k<2)=>World.cell?_setCells_out B [.int .i64 x.cls,.slice (some ⟨g,0,none⟩) x.slots.length x.slots.length] (j*2) w ⟨B,i*2+k,none⟩ (fun _ _=>Or.inl (by simp;omega))
   simp only[hij,if_false]
   exact⟨(ho 0 (by omega)).trans e1,(ho 1 (by omega)).trans e2,by rw[xa0 (by omega)];exact e3,e4,e5⟩
 ·by_cases hkj:k=j
  ·simp only[hkj,if_true,show i≠j by omega,if_false];exact hs i (by omega)
  ·simp only[hkj,if_false,show i≠j by omega];exact h4 i k hi (by omega)
 ·rw[xbJ]
  by_cases hij:i=j
  ·simp only[hij,if_true];exact xal hg
  ·simp only[hij,if_false];exact h5 i (by omega)
theorem HRow.setLow {w:World}{B d:Nat}{s:Nat->Nat}{xs:List QO}{j:Nat}(h:HRow w B s xs j)(hd:d<B)(o:Nat)(v:Value):HRow (w.setCell ⟨d,o,none⟩ v) B s xs j:=by
 obtain⟨⟨cur,h1,h2⟩,h3,h4,h5⟩:=h;refine⟨⟨cur,by rw[xac (by omega)];exact h1,h2⟩,fun i x hi hx=>?_,h4,fun i hi=>by rw[xa6];exact h5 i hi⟩
 obtain⟨e1,e2,e3,e4,e5⟩:=h3 i x hi hx;have k:=fun (o':Nat)=>qzI w ⟨d,o,none⟩ ⟨B,o',none⟩ v (by simp;omega)
 exact⟨(k _).trans e1,(k _).trans e2,by rw[xac (by omega)];exact e3,e4,e5⟩
theorem HRow.heap {w:World}{g:Nat}{s:Nat->Nat}{xs:List QO}(h:HRow w g s xs xs.length)(hby:xs.length*32<=140737488351232){T:Nat->Nat}(hT:∀ b,g<=b->b<w.heap.size->T b=2):HeapSt T w (.slice (some ⟨g,0,none⟩) xs.length xs.length) g s xs:=by
 obtain⟨⟨cur,h1,h2⟩,h3,h4,h5⟩:=h;refine⟨⟨_,rfl,qzC _,by unfold maxLen;omega⟩,hby,xal h1,hT g (qzC _) (xal h1),fun i x hx=>?_,fun i j hi hj e=>?_⟩
 ·obtain⟨e1,e2,e3,e4,e5⟩:=h3 i x (xae hx) hx
  exact⟨e1,e2,e3,hT _ (by omega) (xal e3),by omega,e5⟩
 ·rcases Nat.lt_trichotomy i j with h | h | h
  ·have:=h4 i j h hj;omega
  ·exact h
  ·have:=h4 j i h hi;omega
theorem xkg {P:Nat->Prop}(hs:List QO)(v:Value)(w:World)(hh:xaD P w v hs):Calls Try.prog 60 #[v] w fun e w'=>∃ g s,e=.returned (.slice (some ⟨g,0,none⟩) hs.length hs.length)/\HRow w' g s hs hs.length/\w.heap.size<=g/\Below w.heap.size w w':=by
 obtain⟨ad,cap,rfl,hl,hcap,hby,hrow⟩:=hh;have hmk:=xmn hs.length hby;go_enter Try.func60,Try.ntmps60;go_wp2
 go_loopg [11] hs.length (fun g c wr=>∃ j:Nat,j+g=hs.length/\c=.int .i64 j/\Below w.heap.size w wr/\(∃ s,HRow wr w.heap.size s hs j)/\w.heap.size<wr.heap.size)
 case atStart=>exact⟨0,by omega,rfl,xak _ _,⟨fun _=>0,HRow.start _ _ _ (size_madeCells _ _)⟩,by simp⟩
 case round=>
  obtain⟨j,hj,rfl,hbel,⟨s,hst⟩,hz⟩:=hrel;clear hmk
  by_cases hlt:j<hs.length
  ·obtain⟨b,o,rfl,-,hv1,sv,hv2,hsl⟩:=hrow j hs[j] (by simp[hlt])
   simp only[Nat.add_zero] at hv1;have hxj:Hid (hs[j]?=some hs[j]):=by show _=_;simp[hlt]
   generalize hs[j]=x at *;have u1:=qzA hbel hv1;have u2:=qzA hbel hv2;have hsl2:=hsl.later xa1 hbel;obtain⟨ad2,cap2,rfl,hl2,hcap2,hby2,hrow2⟩:=id hsl2;clear hv1 hv2 hsl hrow2;have hj1:(j:Int)<(hs.length:Int):=by omega
   have hj0:(0:Int)<=(j:Int):=by omega
   go_wp2;have hW1:Below wr.heap.size wr (wr.alloc (Obj.cells #[Value.int .i64 x.cls,Value.slice ad2 x.slots.length cap2] 82)).drew:=(xak _ _).drew;have hIV:=hsl2.later xa1 hW1;have hst1:=hst.later hW1;have hbel1:=hbel.trans (hW1.mono (by omega))
   have c1:(wr.alloc (Obj.cells #[Value.int .i64 x.cls,Value.slice ad2 x.slots.length cap2] 82)).drew.cell? ⟨wr.heap.size,0,none⟩=some (Value.int .i64 x.cls):=by simp
   have c2:(wr.alloc (Obj.cells #[Value.int .i64 x.cls,Value.slice ad2 x.slots.length cap2] 82)).drew.cell? ⟨wr.heap.size,1,none⟩=some (Value.slice ad2 x.slots.length cap2):=by simp
   have hzz:(wr.alloc (Obj.cells #[Value.int .i64 x.cls,Value.slice ad2 x.slots.length cap2] 82)).drew.heap.size=wr.heap.size+1:=by simp
   clear hsl2 u1 u2 hrow
   go_region_held3 (fun w'=>w'.cell? ⟨wr.heap.size,0,none⟩=some (Value.int .i64 x.cls)/\w'.cell? ⟨wr.heap.size,1,none⟩=some (Value.slice ad2 x.slots.length cap2)) (first | exact⟨c1,c2⟩ | exact⟨d1,d2⟩ | exact⟨(qzM _ _ _ _ (by first | (simp;done) | (simp;omega))).trans ((qzM _ _ _ _ (by first | (simp;done) | (simp;omega))).trans d1),(qzM _ _ _ _ (by first | (simp;done) | (simp;omega))).trans ((qzM _ _ _ _ (by first | (simp;done) | (simp;omega))).trans d2)⟩)
    (first | (go_at_call 78;refine (xis x.slots _ _ hIV).mono ?_;rintro e w1 ⟨g',rfl,hg2,hgl,hb1⟩;have hst2:=hst1.later hb1;obtain⟨cur,k1,k2⟩:=hst2.row;have f1:∀ o,w1.frozen? ⟨w.heap.size,o,none⟩=false:=fun o=>(by simp[World.frozen?,k1]);have d1:=qzA hb1 c1;have d2:=qzA hb1 c2;have e1:w1.cell? ⟨w.heap.size,j*2,none⟩=some (cur[j*2]'(by omega)):=(by rw[qzB k1];simp);have e2:w1.cell? ⟨w.heap.size,j*2+1,none⟩=some (cur[j*2+1]'(by omega)):=(by rw[qzB k1];simp)))
   go_wp2
   go_roundg (gk-1)
   case measure=>omega
   case rel=>
    have hlt1:w.heap.size<w1.heap.size:=qzE (by omega) hb1.size
    refine⟨j+1,by omega,by go_num,((hbel1.trans (hb1.mono (by omega))).setCell (qzC _) _).setCell (qzC _) _,?_,by simp;omega⟩
    have hg3:wr.heap.size+1<=g':=by rw[hzz] at hgl;exact hgl
    exact⟨_,hst2.step hxj.out hg2 (by omega) (fun i hi=>by have:=hst.lt i hi;omega) hby2⟩
  ·obtain rfl:j=hs.length:=by omega
   go_wp2
   go_ret
   exact⟨_,s,rfl,hst,qzC _,hbel⟩
theorem xqW {P:Nat->Prop}(X:QW)(cv hv:Value)(w:World)(h1:xai P w cv X.cz)(h2:xaD P w hv X.heap):Calls Try.prog 39 #[WV cv hv X.ez] w fun e w'=>∃ g gh s,e=.returned (WV (.slice (some ⟨g,0,none⟩) X.cz.length X.cz.length) (.slice (some ⟨gh,0,none⟩) X.heap.length X.heap.length) X.ez)/\OwnC w' g X.cz s X.cz.length/\
  (∃ sh,HRow w' gh sh X.heap X.heap.length)/\s X.cz.length<=gh/\w.heap.size<=g/\Below w.heap.size w w':=by
 obtain⟨ad,cap,rfl,hl,hcap,hby,hrow⟩:=h1;obtain⟨adh,caph,rfl,hlh,hcaph,hbyh,hrowh⟩:=id h2;have hmk:=xix X.cz.length hby;go_enter Try.func39,Try.ntmps39;go_wp2;have hW:=xfL w (Obj.cells #[Value.slice ad X.cz.length cap,Value.slice adh X.heap.length caph,Value.int .i64 X.ez] 25) (Obj.cells #[Value.slice none 0 0,Value.slice none 0 0,Value.int .i64 0] 25) (Obj.cells (madeCells #[Value.string { data:=#[] },Value.int .i64 0,Value.int .i64 0,Value.slice none 0 0] (X.cz.length*4)) 52);have hS0:=OwnC.start ((w.alloc (Obj.cells #[Value.slice ad X.cz.length cap,Value.slice adh X.heap.length caph,Value.int .i64 X.ez] 25)).alloc (Obj.cells #[Value.slice none 0 0,Value.slice none 0 0,Value.int .i64 0] 25)) X.cz (madeCells #[Value.string { data:=#[] },Value.int .i64 0,Value.int .i64 0,Value.slice none 0 0] (X.cz.length*4)) (size_madeCells _ _)
 rw[show ((w.alloc (Obj.cells #[Value.slice ad X.cz.length cap,Value.slice adh X.heap.length caph,Value.int .i64 X.ez] 25)).alloc (Obj.cells #[Value.slice none 0 0,Value.slice none 0 0,Value.int .i64 0] 25)).heap.size=w.heap.size+1+1 by simp] at hS0
 go_loopg [13] X.cz.length (fun g c wr=>∃ j:Nat,j+g=X.cz.length/\c=.int .i64 j/\Below (w.heap.size+1+1) ((w.alloc (Obj.cells #[Value.slice ad X.cz.length cap,Value.slice adh X.heap.length caph,Value.int .i64 X.ez] 25)).alloc (Obj.cells #[Value.slice none 0 0,Value.slice none 0 0,Value.int .i64 0] 25)) wr/\∃ s,OwnC wr (w.heap.size+1+1) X.cz s j)
 case atStart=>exact⟨0,by omega,rfl,(qzL _ _).alloc (by simp) _,_,hS0⟩
 case round=>
  obtain⟨j,hj,rfl,hbel,s,hst⟩:=hrel;clear hmk hS0;have hbw:Below w.heap.size w wr:=(xbP _ _ _).trans (hbel.mono (by omega))
  have hz:w.heap.size+1+1<wr.heap.size:=by obtain⟨⟨cur,k,-⟩,-⟩:=hst;exact xal k
  by_cases hlt:j<X.cz.length
  ·obtain⟨b,o,rfl,-,hv0,hv1,hv2,hsz,sv,hv4,hsl⟩:=hrow j X.cz[j] (by simp[hlt])
   have hxj:Hid (X.cz[j]?=some X.cz[j]):=by show _=_;simp[hlt]
   generalize X.cz[j]=x at *;simp only[Nat.add_zero] at hv0;have u0:=qzA hbw hv0;have u1:=qzA hbw hv1;have u2:=qzA hbw hv2;have u4:=qzA hbw hv4;have hsl2:=hsl.later xbq hbw;obtain⟨ad2,cap2,rfl,-,-,hby2,-⟩:=id hsl2;clear hv0 hv1 hv2 hv4 hsl hrow;have hj1:(j:Int)<(X.cz.length:Int):=by omega
   have hj0:(0:Int)<=(j:Int):=by omega
   go_wp2_with fail;refine (xr5 x.mz _ _ (hsl2.later xbq (xak _ _))).mono ?_;rintro e w1 ⟨g',rfl,hM,hg',hb⟩;obtain⟨hc,hf⟩:=xjm hb;have h5:s j<=wr.heap.size:=hst.2.2.2.1;replace hst:=(hst.later (xak _ _)).later hb;have hg2:wr.heap.size+1<=g':=by simpa using hg'
   have hz1:wr.heap.size+1<=w1.heap.size:=by have:=hb.size;simpa using this
   replace hst:=hst.set h5 3 (.slice (some ⟨g',0,none⟩) x.mz.length x.mz.length);replace hM:=hM.set (d:=wr.heap.size) xbq (by omega) 3 (.slice (some ⟨g',0,none⟩) x.mz.length x.mz.length)
   have hz2:(w1.setCell ⟨wr.heap.size,3,none⟩ (.slice (some ⟨g',0,none⟩) x.mz.length x.mz.length)).heap.size=w1.heap.size:=by simp
   have d3:(w1.setCell ⟨wr.heap.size,3,none⟩ (.slice (some ⟨g',0,none⟩) x.mz.length x.mz.length)).cell? ⟨wr.heap.size,3,none⟩=some (.slice (some ⟨g',0,none⟩) x.mz.length x.mz.length):=xb5 (v:=.slice ad2 x.mz.length cap2) (by rw[hc _ _ (by simp)];simp) _
   obtain⟨⟨cur,k1,k2⟩,k3⟩:=id hst;have f1:∀ o,(w1.setCell ⟨wr.heap.size,3,none⟩ (.slice (some ⟨g',0,none⟩) x.mz.length x.mz.length)).frozen? ⟨w.heap.size+1+1,o,none⟩=false:=fun o=>(by simp only[World.frozen?,k1];simp)
   have f2:∀ o,w1.frozen? ⟨w.heap.size+1+1,o,none⟩=false:=fun o=>(by rw[← World.frozen?_setCell (a:=⟨wr.heap.size,3,none⟩) (v:=(.slice (some ⟨g',0,none⟩) x.mz.length x.mz.length))];exact f1 o)
   have ex:∀ o,o<X.cz.length*4->∃ u,w1.cell? ⟨w.heap.size+1+1,o,none⟩=some u:=fun o ho=>by
    have:=qzI w1 ⟨wr.heap.size,3,none⟩ ⟨w.heap.size+1+1,o,none⟩ (.slice (some ⟨g',0,none⟩) x.mz.length x.mz.length) (by simp;omega)
    rw[qzB k1] at this
    exact⟨cur[o]'(by omega),by rw[← this];simp⟩
   obtain⟨y0,e0⟩:=ex (j*4) (by omega)
   obtain⟨y1,e1⟩:=ex (j*4+1) (by omega)
   obtain⟨y2,e2⟩:=ex (j*4+2) (by omega)
   obtain⟨y3,e3⟩:=ex (j*4+3) (by omega)
   have hne:¬ wr.heap.size=w.heap.size+1+1:=by omega
   have hne':¬ w.heap.size+1+1=wr.heap.size:=by omega
   clear k1 k2 k3;go_wp2
   go_roundg (gk-1)
   case measure=>omega
   case rel=>
    obtain⟨s',hs'⟩:=hst.step hxj.out hsz (by omega) hM hby2
    refine⟨j+1,by omega,by go_num,?_,s',hs'⟩
    exact (((((hbel.trans (((xak _ _).trans (hb.mono (by simp))).mono (by omega))).setCell (by simp;omega) _).setCell (by simp) _).setCell (by simp) _).setCell (by simp) _).setCell (by simp) _
  ·obtain rfl:j=X.cz.length:=by omega
   have q1:wr.drew.cell? ⟨w.heap.size,1,none⟩=some (Value.slice adh X.heap.length caph):=by
    show wr.cell? _=_
    rw[hbel.cell (by simp;omega)];simp
   have q2:wr.drew.cell? ⟨w.heap.size,2,none⟩=some (.int .i64 X.ez):=by
    show wr.cell? _=_
    rw[hbel.cell (by simp;omega)];simp
   have r0:wr.drew.cell? ⟨w.heap.size+1,0,none⟩=some (Value.slice none 0 0):=by
    show wr.cell? _=_
    rw[hbel.cell (by simp)];simp
   have r1:wr.drew.cell? ⟨w.heap.size+1,1,none⟩=some (Value.slice none 0 0):=by
    show wr.cell? _=_
    rw[hbel.cell (by simp)];simp
   have r2:wr.drew.cell? ⟨w.heap.size+1,2,none⟩=some (.int .i64 0):=by
    show wr.cell? _=_
    rw[hbel.cell (by simp)];simp
   have rf:∀ o,wr.drew.frozen? ⟨w.heap.size+1,o,none⟩=false:=fun o=>by
    show wr.frozen? _=_
    rw[hbel.frozen (by simp)];simp
   have hH:=h2.later xaE hbw.drew;have hst1:=hst.later (qzL _ _).drew;have hs5:s X.cz.length<=wr.drew.heap.size:=hst1.2.2.2.1;have hzd:w.heap.size+1+1<wr.drew.heap.size:=hz;have hbd:=hbw.drew;clear hst hW hrow hrowh hbel hbw h2;go_wp2_with fail
   go_region_held3 (fun w'=>w'.cell? ⟨w.heap.size,1,none⟩=some (Value.slice adh X.heap.length caph)/\w'.cell? ⟨w.heap.size,2,none⟩=some (.int .i64 X.ez)) (first | exact⟨q1,q2⟩ | exact⟨d1,d2⟩ | exact⟨(qzM _ _ _ _ (by first | (simp;done) | (simp;omega))).trans ((qzM _ _ _ _ (by first | (simp;done) | (simp;omega))).trans ((qzM _ _ _ _ (by first | (simp;done) | (simp;omega))).trans d1)),(qzM _ _ _ _ (by first | (simp;done) | (simp;omega))).trans ((qzM _ _ _ _ (by first | (simp;done) | (simp;omega))).trans ((qzM _ _ _ _ (by first | (simp;done) | (simp;omega))).trans d2))⟩)
    (first | (go_at_call 60;refine (xkg X.heap _ _ hH).mono ?_;rintro e w1 ⟨gh,sh,rfl,hown,hgh,hb1⟩;have d1:=qzA hb1 q1;have d2:=qzA hb1 q2;have t0:=qzA hb1 r0;have t1:=qzA hb1 r1;have t2:=qzA hb1 r2;have tf:∀ o,w1.frozen? ⟨w.heap.size+1,o,none⟩=false:=fun o=>(hb1.frozen (by simp;omega)).trans (rf o)))
   go_wp2;have hst2:=hst1.later hb1;refine qzK (v:=WV (.slice (some ⟨w.heap.size+1+1,0,none⟩) X.cz.length X.cz.length) (.slice (some ⟨gh,0,none⟩) X.heap.length X.heap.length) X.ez) ?_ rfl ⟨_,gh,s,rfl,?_,⟨sh,?_⟩,by omega,by omega,?_⟩
   ·simp[results,Try.results39,go_sem,t0,t1,t2]
   ·exact ((hst2.setLow (by omega) _ _).setLow (by omega) _ _).setLow (by omega) _ _
   ·exact ((hown.setLow (by omega) _ _).setLow (by omega) _ _).setLow (by omega) _ _
   ·exact (((xaf hbd hb1).setCell (by simp) _).setCell (by simp) _).setCell (by simp) _
section
variable {σ:Type} {p:Mp σ} {T T':Nat->Nat} {w w':World} {mb:Nat} {m m':Mc σ} {calls calls':Int} {hv:Value} {g:Nat} {s:Nat->Nat} {K fb:Nat} {f:Fr} {cv av tv sv kv:Value}
theorem HeapSt.slots {xs:List QO}(h:HeapSt T w hv g s xs){i:Nat}{x:QO}(hx:xs[i]?=some x){vs:List QV}(k:Kp (fun t=>t=1) (fun b=>if b=s i then 1 else 0) w w')(hn:w'.heap[s i]?=some (.cells (xam vs).toArray 27 (0,0)))(hl:vs.length=x.slots.length):HeapSt T w' hv g s (xs.set i ⟨x.cls,vs⟩):=by
 have hi:=xae hx;obtain⟨e1,e2,e3,e4,e5,e6⟩:=h.obj i x hx;have hk:∀ b,b<w.heap.size->b≠s i->w'.heap[b]?=w.heap[b]?:=fun b hb hne=>k.blk b hb (by simp[hne])
 have hc:∀ o u,w.cell? ⟨g,o,none⟩=some u->w'.cell? ⟨g,o,none⟩=some u:=fun o u hu=>by
  unfold World.cell? at hu ⊢;rw[hk g h.there (Ne.symm e5)];exact hu
 refine⟨by simpa using h.form,by simpa using h.len,qzE h.there k.size,h.tg,fun j y hy=>?_,fun a b ha hb=>h.inj a b (by simpa using ha) (by simpa using hb)⟩
 by_cases hj:j=i
 ·subst hj;rw[List.getElem?_set_self hi] at hy
  cases hy
  exact⟨hc _ _ e1,by rw[hl];exact hc _ _ e2,hn,e4,e5,by rw[hl];exact e6⟩
 ·rw[List.getElem?_set_ne (by omega)] at hy
  obtain⟨d1,d2,d3,d4,d5,d6⟩:=h.obj j y hy
  exact⟨hc _ _ d1,hc _ _ d2,by rw[hk _ (xal d3) fun e=>hj (h.inj j i (xae hy) hi e)];exact d3,d4,d5,d6⟩
theorem xfR (h:MacAt p T w mb m calls hv g s)(v:QV)(n:Int)(x:QV):Calls Try.prog 113 #[.pointer (some ⟨mb,0,none⟩),VV v,.int .i64 n,VV x] w fun e w'=>e=.returned (.tuple #[])/\(∃ T',Ext T T' w/\MacAt p T' w' mb { m with heap:=xaX m.heap v n x } calls hv g s)/\Kp (fun t=>t=2) T w w':=by
 have hlt:=xal h.box;have hb2:=xbP w (.cells #[.int .i64 v.k,.int .i64 v.n] 27) (.cells #[.int .i64 x.k,.int .i64 x.n] 27);have hM:=(h.tagged0 4).later hb2;have hX:=xaq T w 4;have hT4:∀ b,w.heap.size<=b->xaF T w 4 b=4:=fun b hb=>xaJ hb
 have b0:((w.alloc (.cells #[.int .i64 v.k,.int .i64 v.n] 27)).alloc (.cells #[.int .i64 x.k,.int .i64 x.n] 27)).cell? ⟨w.heap.size,0,none⟩=some (.int .i64 v.k):=qzA (xak _ _) (xaa _ _ _ _ rfl 0);have b1:((w.alloc (.cells #[.int .i64 v.k,.int .i64 v.n] 27)).alloc (.cells #[.int .i64 x.k,.int .i64 x.n] 27)).cell? ⟨w.heap.size,1,none⟩=some (.int .i64 v.n):=qzA (xak _ _) (xaa _ _ _ _ rfl 1);have x0:((w.alloc (.cells #[.int .i64 v.k,.int .i64 v.n] 27)).alloc (.cells #[.int .i64 x.k,.int .i64 x.n] 27)).cell? ⟨w.heap.size+1,0,none⟩=some (.int .i64 x.k):=xaa _ _ _ _ (by simp) 0
 have x1:((w.alloc (.cells #[.int .i64 v.k,.int .i64 v.n] 27)).alloc (.cells #[.int .i64 x.k,.int .i64 x.n] 27)).cell? ⟨w.heap.size+1,1,none⟩=some (.int .i64 x.n):=xaa _ _ _ _ (by simp) 1
 clear h;generalize xaF T w 4=T1 at *;go_enter Try.func113,Try.ntmps113
 go_upto_region 1 with (fail)
 generalize ((w.alloc (.cells #[.int .i64 v.k,.int .i64 v.n] 27)).alloc (.cells #[.int .i64 x.k,.int .i64 x.n] 27))=W at *;have c1:=hM.c1;obtain⟨cap,rfl,hc1,hc2⟩:=hM.heap.form;unfold maxLen at hc2;have KW:Hid (Kp (fun t=>t=2) T w W):=Kp.of_below hb2
 have HM:=hid hM
 cases hi:xdJ m.heap.length v with
 | false=>
  have HN:Hid (xaX m.heap v n x=m.heap):=by show _=_;unfold xaX;rw[xeI hi]
  have HD:Hid ((∃ T',Ext T T' w/\MacAt p T' W.drew mb { m with heap:=xaX m.heap v n x } calls (.slice (some ⟨g,0,none⟩) m.heap.length cap) g s)/\Kp (fun t=>t=2) T w W.drew):=⟨⟨T1,hX,by rw[HN.out];exact hM.later (qzL _ _).drew⟩,KW.out.drew⟩
  clear hM hb2;unfold xdJ at hi;simp only[decide_eq_false_iff_not] at hi
  by_cases hk:v.k=4
  ·have hk':(v.k == 4)=true:=by simpa using hk
   by_cases hn:v.n<0
   ·have hn':decide (0<=v.n)=false:=by simpa using hn
    clear hi
    go_region
    go_wp2
    exact bodyPost_end (v:=.tuple #[]) (by simp[results,Try.results113,go_sem]) rfl ⟨rfl,HD.out⟩
   ·have hn':decide (0<=v.n)=true:=by simpa using hn
    have hl:decide (v.n<(m.heap.length:Int))=false:=by simp;omega
    clear hi
    go_region
    go_wp2
    exact bodyPost_end (v:=.tuple #[]) (by simp[results,Try.results113,go_sem]) rfl ⟨rfl,HD.out⟩
  ·have hk':(v.k == 4)=false:=by simpa using hk
   clear hi
   go_region
   go_wp2
   exact bodyPost_end (v:=.tuple #[]) (by simp[results,Try.results113,go_sem]) rfl ⟨rfl,HD.out⟩
 | true=>
  obtain⟨j,o,hj,hjl,hjo,hob⟩:=xgj hi;have hk:v.k=4:=by unfold xdJ at hi;simp only[decide_eq_true_eq] at hi;exact hi.1
  have hk':(v.k == 4)=true:=by simpa using hk
  have HN:Hid (xaX m.heap v n x=m.heap.set j ⟨o.cls,xaW o.slots n x⟩):=by show _=_;unfold xaX;rw[hob];simp[hj]
  obtain⟨e1,e2,e3,e4,e5,e6⟩:=hM.heap.obj j o hjo;have HJ:=hid hjo;rw[hj] at b1;have hj1:(j:Int)<(m.heap.length:Int):=by omega
  have hj0:(0:Int)<=(j:Int):=by omega
  have n1:¬ mb=s j:=fun e=>by have:=hM.tag;rw[e,e4] at this;omega
  have n2:¬ w.heap.size=s j:=fun e=>by have:=hT4 w.heap.size (qzC _);rw[e,e4] at this;omega
  have n3:¬ w.heap.size+1=s j:=fun e=>by have:=hT4 (w.heap.size+1) (by omega);rw[e,e4] at this;omega
  have n4:¬ g=s j:=Ne.symm e5;have HE3:Hid (W.drew.drew.heap[s j]?=some (.cells (xam o.slots).toArray 27 (0,0))):=e3;have hS0:W.drew.drew.cell? ⟨mb,1,none⟩=some (.slice (some ⟨g,0,none⟩) m.heap.length cap)/\W.drew.drew.cell? ⟨w.heap.size,1,none⟩=some (.int .i64 (j:Int))/\W.drew.drew.cell? ⟨w.heap.size+1,0,none⟩=some (.int .i64 x.k)/\W.drew.drew.cell? ⟨w.heap.size+1,1,none⟩=some (.int .i64 x.n)/\W.drew.drew.cell? ⟨g,j*2+1,none⟩=some (.slice (some ⟨s j,0,none⟩) o.slots.length o.slots.length):=⟨c1,b1,x0,x1,e2⟩;have HT:=hid e4;clear hi hj hob hb2 hk e1 e3 e4 e5 e6 hM hjo
  go_region
  go_wp2;clear b0 b1 x0 x1 c1 e2;have hent:Calls Try.prog 112 #[.slice (some ⟨s j,0,none⟩) o.slots.length o.slots.length,.int .i64 n,VV x] W.drew.drew _:=xfp o.slots (s j) n x _ HE3.out
  go_region_held3 (fun w'=>w'.cell? ⟨mb,1,none⟩=some (.slice (some ⟨g,0,none⟩) m.heap.length cap)/\w'.cell? ⟨w.heap.size,1,none⟩=some (.int .i64 (j:Int))/\w'.cell? ⟨w.heap.size+1,0,none⟩=some (.int .i64 x.k)/\w'.cell? ⟨w.heap.size+1,1,none⟩=some (.int .i64 x.n)/\w'.cell? ⟨g,j*2+1,none⟩=some (.slice (some ⟨s j,0,none⟩) o.slots.length o.slots.length))
   (first | with_reducible exact hS0 | with_reducible exact hS1)
   (first | (go_at_call 112;refine hent.mono ?_;rintro e w1 ⟨rfl,hw1,hz1,hka⟩;have k1:=hka (fun t=>t=1) (fun b=>if b=s j then 1 else 0) (by simp);have hS1:=And.intro (k1.cell hS0.1 (by simp[n1])) (And.intro (k1.cell hS0.2.1 (by simp[n2])) (And.intro (k1.cell hS0.2.2.1 (by simp[n3])) (And.intro (k1.cell hS0.2.2.2.1 (by simp[n3])) (k1.cell hS0.2.2.2.2 (by simp[n4])))))))
  go_wp2;have kT:=hka (fun t=>t=2) T1 HT.out
  refine bodyPost_end (v:=.tuple #[]) (by simp[results,Try.results113,go_sem]) rfl ⟨rfl,⟨T1,hX,?_⟩,?_⟩
  ·have hm:=HM.out.later (w':=W.drew.drew) ((qzL _ _).drew).drew;refine⟨kT.held hm.box (by rw[hm.tag];omega),hm.tag,?_,hm.cls.fx xaA (.refl _ _) kT (by omega)⟩
   rw[HN.out]
   exact hm.heap.slots HJ.out k1 hw1 (xbE _ _ _)
  ·exact KW.out.trans hX (((Kp.refl _ _ _).drew.drew).trans (.refl _ _) kT)
end
end Go.Proofs.Ytdfbgpiikeheiaa
