/- A part. -/
import Derived.Test.YtapbeiccodnniaaGreatM23
import Derived.Test.YtapbeiccodnniaaGreatM24
namespace Go.Proofs.YtapbeiccodnniaaGreat
open Go.ChangeShapes Go.WideShapes Go.ChangeAt Go.RowKit
set_option linter.unusedSimpArgs false
set_option linter.unusedVariables false
set_option maxHeartbeats 8000000
set_option maxRecDepth 8000
theorem xfD {P:Nat->Prop}(m:QM)(mv:Value)(w:World)(hc:xa5 P w mv m.code)(hs:xc5 m.code):Calls Tryz.prog 38 #[MV m mv] w fun e w'=>∃ a n k,e=.returned (.tuple #[.slice a n k,FV (xaH m.code).2])/\Below w.heap.size w w':=by
 refine (xg0 m mv w hc hs).mono ?_;rintro e w' ⟨hb,⟨h0,g,rfl,-,-⟩ | ⟨h0,rfl⟩⟩
 ·have:=xgJ _ _ _ h0
  exact⟨_,_,_,by unfold xaH at *;rw[this],hb⟩
 ·exact⟨_,_,_,rfl,hb⟩
structure RkS (w:World)(X:QW)(cv hv:Value)(m:QM)(mv:Value)(w':World):Prop where
 bel:Below w.heap.size w w'
 a0:w'.cell? ⟨w.heap.size,0,none⟩=some cv
 a1:w'.cell? ⟨w.heap.size,1,none⟩=some hv
 a2:w'.cell? ⟨w.heap.size,2,none⟩=some (.int .i64 X.ez)
 m0:w'.cell? ⟨w.heap.size+1,0,none⟩=some (.string m.name)
 m1:w'.cell? ⟨w.heap.size+1,1,none⟩=some (.int .i64 m.args)
 m2:w'.cell? ⟨w.heap.size+1,2,none⟩=some (.int .i64 m.temps)
 m3:w'.cell? ⟨w.heap.size+1,3,none⟩=some (.int .i64 m.prim)
 m4:w'.cell? ⟨w.heap.size+1,4,none⟩=some mv
 rb:w'.heap[w.heap.size+1+1]?=some (.cells #[.int .i64 0,.int .i64 0] 61 (0,0))
theorem RkS.later {w:World}{X:QW}{cv hv:Value}{m:QM}{mv:Value}{w' w1:World}(h:RkS w X cv hv m mv w')(hb:Below w'.heap.size w' w1):RkS w X cv hv m mv w1:=
 ⟨xah h.bel hb,qzA hb h.a0,qzA hb h.a1,qzA hb h.a2,qzA hb h.m0,qzA hb h.m1,qzA hb h.m2,qzA hb h.m3,qzA hb h.m4,xac h.rb hb⟩
theorem xiX (w:World)(X:QW)(cv hv:Value)(m:QM)(mv:Value):RkS w X cv hv m mv (((w.alloc (Obj.cells #[cv,hv,Value.int .i64 X.ez] 25)).alloc (Obj.cells #[Value.string m.name,Value.int .i64 m.args,Value.int .i64 m.temps,Value.int .i64 m.prim,mv] 59)).alloc (Obj.cells #[Value.int .i64 0,Value.int .i64 0] 61)):=by
 refine⟨xfv _ _ _ _,?_,?_,?_,?_,?_,?_,?_,?_,xba _ _ _ (by simp)⟩
 ·exact qzA (xca _ _ _) (by rw[xaa _ _ _ _ rfl];rfl)
 ·exact qzA (xca _ _ _) (by rw[xaa _ _ _ _ rfl];rfl)
 ·exact qzA (xca _ _ _) (by rw[xaa _ _ _ _ rfl];rfl)
 all_goals exact qzA (xaj _ _) (by rw[xaa _ _ _ _ (by simp)];rfl)
theorem xpi {n:Nat}{c:Int}{m:QM}(h:c<0\/(n:Int)<=c):wmE n c m=6:=by unfold wmE;rw[if_pos (by simp[inR];omega)]
theorem xk2 {n:Nat}{c:Int}{m:QM}(h:¬ (c<0\/(n:Int)<=c))(h2:xbf m.name=false):wmE n c m=7:=by unfold wmE;rw[if_neg (by simp[inR];omega),if_pos h2]
theorem xdL {n:Nat}{c:Int}{m:QM}(h:¬ (c<0\/(n:Int)<=c))(h2:xbf m.name=true)(h3:m.args<0\/4<m.args\/m.temps<0\/6<m.temps):wmE n c m=3:=by unfold wmE;rw[if_neg (by simp[inR];omega),if_neg (by simp[h2]),if_pos (by simp[inR];omega)]
theorem xj5 {n:Nat}{c:Int}{m:QM}(h:¬ (c<0\/(n:Int)<=c))(h2:xbf m.name=true)(h3:¬ (m.args<0\/4<m.args\/m.temps<0\/6<m.temps))(h4:m.prim≠0):wmE n c m=1:=by unfold wmE;rw[if_neg (by simp[inR];omega),if_neg (by simp[h2]),if_neg (by simp[inR];omega),if_pos h4]
theorem xh9 {n:Nat}{c:Int}{m:QM}(h:¬ (c<0\/(n:Int)<=c))(h2:xbf m.name=true)(h3:¬ (m.args<0\/4<m.args\/m.temps<0\/6<m.temps))(h4:m.prim=0)(h5:m.code.length=0\/60<m.code.length):wmE n c m=5:=by unfold wmE;rw[if_neg (by simp[inR];omega),if_neg (by simp[h2]),if_neg (by simp[inR];omega),if_neg (by simp[h4]),if_pos (by simp[inR];omega)]
theorem xo8 {n:Nat}{c:Int}{m:QM}(h:wmE n c m=0):¬ (c<0\/(n:Int)<=c)/\xbf m.name=true/\¬ (m.args<0\/4<m.args\/m.temps<0\/6<m.temps)/\m.prim=0/\¬ (m.code.length=0\/60<m.code.length):=by
 by_cases h1:c<0\/(n:Int)<=c
 ·rw[xpi h1] at h;cases h
 cases h2:xbf m.name
 ·rw[xk2 h1 h2] at h;cases h
 by_cases h3:m.args<0\/4<m.args\/m.temps<0\/6<m.temps
 ·rw[xdL h1 h2 h3] at h;cases h
 by_cases h4:m.prim=0
 ·by_cases h5:m.code.length=0\/60<m.code.length
  ·rw[xh9 h1 h2 h3 h4 h5] at h;cases h
  ·exact⟨h1,rfl,h3,h4,h5⟩
 ·rw[xj5 h1 h2 h3 h4] at h;cases h
theorem xgY (X:QW)(c:Int)(m:QM)(ad ah am:Option Addr)(cap ch cm:Nat)(w:World)(hcap:X.cz.length<=9000000000000000000)(hcm:m.code.length<=9000000000000000000)(hmn:m.name.size<=140737488351232)(v:Int)(hv:wmE X.cz.length c m=v)(h0:v≠0):Calls Tryz.prog 17 #[WV (.slice ad X.cz.length cap) (.slice ah X.heap.length ch) X.ez,.int .i64 c,MV m (.slice am m.code.length cm)] w fun e w'=>e=.returned (FV (v,0))/\Below w.heap.size w w':=by
 have HV:Hid (wmE X.cz.length c m=v):=hv;have H0:Hid (v≠0):=h0;clear hv h0;go_enter Tryz.func17,Tryz.ntmps17
 go_upto_region 1 with (fail)
 have hS:=xiX w X (.slice ad X.cz.length cap) (.slice ah X.heap.length ch) m (.slice am m.code.length cm);generalize (((w.alloc (Obj.cells #[Value.slice ad X.cz.length cap,Value.slice ah X.heap.length ch,Value.int .i64 X.ez] 25)).alloc (Obj.cells #[Value.string m.name,Value.int .i64 m.args,Value.int .i64 m.temps,Value.int .i64 m.prim,Value.slice am m.code.length cm] 59)).alloc (Obj.cells #[Value.int .i64 0,Value.int .i64 0] 61))=W0 at *;have a0:=hS.a0;have m0:=hS.m0;obtain⟨rc,rf⟩:=xoX hS.rb
 by_cases h1:c<0
 ·have HQ:Hid (c<0):=h1;go_wp2;refine qzK (v:=FV (6,0)) ?_ rfl ⟨by rw[← HV.out,xpi (Or.inl HQ.out)],?_⟩
  ·simp[results,Tryz.results17,go_sem,rc,rf]
  ·first
    | exact ((hS.bel).setCell (by simp;omega) _).setCell (by simp;omega) _
    | exact hS.bel
 have h1':decide (c<0)=false:=by simpa using h1
 by_cases h2:(X.cz.length:Int)<=c
 ·have HQ:Hid ((X.cz.length:Int)<=c):=h2;go_wp2;refine qzK (v:=FV (6,0)) ?_ rfl ⟨by rw[← HV.out,xpi (Or.inr HQ.out)],?_⟩
  ·simp[results,Tryz.results17,go_sem,rc,rf]
  ·first
    | exact ((hS.bel).setCell (by simp;omega) _).setCell (by simp;omega) _
    | exact hS.bel
 have h2':decide ((X.cz.length:Int)<=c)=false:=by simpa using h2
 have HC:Hid (¬ (c<0\/(X.cz.length:Int)<=c)):=fun h=>h.elim h1 h2
 go_wp2_with fail;refine (xeb m.name _ hmn).mono ?_;rintro e w1 ⟨rfl,hb⟩;replace hS:=hS.later hb;clear hb a0 m0 rc rf h1 h2 h1' h2';obtain⟨rc,rf⟩:=xoX hS.rb;have m1:=hS.m1;have m2:=hS.m2;have m3:=hS.m3;have m4:=hS.m4
 cases h3:xbf m.name
 ·have HQ:Hid (xbf m.name=false):=h3;go_wp2;refine qzK (v:=FV (7,0)) ?_ rfl ⟨by rw[← HV.out,xk2 (by have:=HC.out;omega) HQ.out],?_⟩
  ·simp[results,Tryz.results17,go_sem,rc,rf]
  ·first
    | exact ((hS.bel).setCell (by simp;omega) _).setCell (by simp;omega) _
    | exact hS.bel
 have HN:Hid (xbf m.name=true):=h3
 by_cases h4:m.args<0
 ·have HQ:Hid (m.args<0):=h4;go_wp2;refine qzK (v:=FV (3,0)) ?_ rfl ⟨by rw[← HV.out,xdL (by have:=HC.out;omega) HN.out (Or.inl HQ.out)],?_⟩
  ·simp[results,Tryz.results17,go_sem,rc,rf]
  ·first
    | exact ((hS.bel).setCell (by simp;omega) _).setCell (by simp;omega) _
    | exact hS.bel
 have h4':decide (m.args<0)=false:=by simpa using h4
 by_cases h5:4<m.args
 ·have HQ:Hid (4<m.args):=h5;go_wp2;refine qzK (v:=FV (3,0)) ?_ rfl ⟨by rw[← HV.out,xdL (by have:=HC.out;omega) HN.out (Or.inr (Or.inl HQ.out))],?_⟩
  ·simp[results,Tryz.results17,go_sem,rc,rf]
  ·first
    | exact ((hS.bel).setCell (by simp;omega) _).setCell (by simp;omega) _
    | exact hS.bel
 have h5':decide (4<m.args)=false:=by simpa using h5
 by_cases h6:m.temps<0
 ·have HQ:Hid (m.temps<0):=h6;go_wp2;refine qzK (v:=FV (3,0)) ?_ rfl ⟨by rw[← HV.out,xdL (by have:=HC.out;omega) HN.out (Or.inr (Or.inr (Or.inl HQ.out)))],?_⟩
  ·simp[results,Tryz.results17,go_sem,rc,rf]
  ·first
    | exact ((hS.bel).setCell (by simp;omega) _).setCell (by simp;omega) _
    | exact hS.bel
 have h6':decide (m.temps<0)=false:=by simpa using h6
 by_cases h7:6<m.temps
 ·have HQ:Hid (6<m.temps):=h7;go_wp2;refine qzK (v:=FV (3,0)) ?_ rfl ⟨by rw[← HV.out,xdL (by have:=HC.out;omega) HN.out (Or.inr (Or.inr (Or.inr HQ.out)))],?_⟩
  ·simp[results,Tryz.results17,go_sem,rc,rf]
  ·first
    | exact ((hS.bel).setCell (by simp;omega) _).setCell (by simp;omega) _
    | exact hS.bel
 have h7':decide (6<m.temps)=false:=by simpa using h7
 have HA:Hid (¬ (m.args<0\/4<m.args\/m.temps<0\/6<m.temps)):=by show ¬ _;omega
 by_cases h8:m.prim=0
 ·by_cases h9:m.code.length=0
  ·have HQ:Hid (m.prim=0/\m.code.length=0):=⟨h8,h9⟩;have h9':((m.code.length:Int) == 0)=true:=by simp[h9]
   have h8':(m.prim != 0)=false:=by simp[h8]
   clear h9 h8;go_wp2;refine qzK (v:=FV (5,0)) ?_ rfl ⟨by rw[← HV.out,xh9 (by have:=HC.out;omega) HN.out (by have:=HA.out;omega) HQ.out.1 (Or.inl HQ.out.2)],?_⟩
   ·simp[results,Tryz.results17,go_sem,rc,rf]
   ·first
     | exact ((hS.bel).setCell (by simp;omega) _).setCell (by simp;omega) _
     | exact hS.bel
  ·by_cases h10:(60:Int)<(m.code.length:Int)
   ·have HQ:Hid (m.prim=0/\60<m.code.length):=⟨h8,by omega⟩
    have h9':((m.code.length:Int) == 0)=false:=beq_eq_false_iff_ne.2 (by omega)
    have h8':(m.prim != 0)=false:=by simp[h8]
    clear h9 h8;go_wp2;refine qzK (v:=FV (5,0)) ?_ rfl ⟨by rw[← HV.out,xh9 (by have:=HC.out;omega) HN.out (by have:=HA.out;omega) HQ.out.1 (Or.inr HQ.out.2)],?_⟩
    ·simp[results,Tryz.results17,go_sem,rc,rf]
    ·first
      | exact ((hS.bel).setCell (by simp;omega) _).setCell (by simp;omega) _
      | exact hS.bel
   ·exfalso;have h1:=H0.out;have h2:=HV.out;have h3:=HC.out;have h4:=HN.out
    have:wmE X.cz.length c m=0:=by
     unfold wmE;rw[if_neg (by simp[inR];omega),if_neg (by simp[h4]),if_neg (by simp[inR];omega),if_neg (by simp[h8]),if_neg (by simp[inR];omega)]
    omega
 ·have HQ:Hid (m.prim≠0):=h8;have h8':(m.prim != 0)=true:=by simpa using h8
  go_wp2;refine qzK (v:=FV (1,0)) ?_ rfl ⟨by rw[← HV.out,xj5 (by have:=HC.out;omega) HN.out (by have:=HA.out;omega) (by have:=HQ.out;exact this)],?_⟩
  ·simp[results,Tryz.results17,go_sem,rc,rf]
  ·first
    | exact ((hS.bel).setCell (by simp;omega) _).setCell (by simp;omega) _
    | exact hS.bel
theorem xh6 {P:Nat->Prop}(X:QW)(c:Int)(m:QM)(cv hv mv:Value)(w:World)(hh:xai P w cv X.cz)(hH:xaC P w hv X.heap)(hM:xa5 P w mv m.code)(hmn:m.name.size<=140737488351232)(ho:xbL X.cz)(h0:wmE X.cz.length c m=0)(R:Int × Int)(hR:(match xjw (xgk (xa8 X.cz c) X.cz.length m) 0 m.code with | some f=>f | none=>(xaH m.code).2)=R):Calls Tryz.prog 17 #[WV cv hv X.ez,.int .i64 c,MV m mv] w fun e w'=>e=.returned (FV R)/\Below w.heap.size w w':=by
 obtain⟨ad,cap,rfl,hl,hcap,hby,-⟩:=id hh;obtain⟨ah,ch,rfl⟩:=hH.get;obtain⟨am,cm,rfl,hl2,hcm,hcb,hrow⟩:=id hM;unfold maxLen at hcap hcm;obtain⟨hc1,hnb,hat,hpr,hcl⟩:=xo8 h0
 have HB:Hid (∀ (j:Nat) x,m.code[j]?=some x->(∀ i y,i<j->m.code[i]?=some y->xgk (xa8 X.cz c) X.cz.length m y=0)->xgk (xa8 X.cz c) X.cz.length m x≠0->R=(xgk (xa8 X.cz c) X.cz.length m x,(j:Int))):=fun j x hx hi h=>by
  rw[← hR,xln (k:=0) hx h hi];simp
 have HG:Hid ((∀ (i:Nat) y,m.code[i]?=some y->xgk (xa8 X.cz c) X.cz.length m y=0)->R=(xaH m.code).2):=fun h=>by rw[← hR,xhn h]
 have HNR:Hid (∀ x:QI,xoo (xaP X.cz c) X.cz.length m x=xgk (xa8 X.cz c) X.cz.length m x):=fun x=>by
  have hsl:=xcv ho (X.cz.length+1) c 0 (by omega)
  have hs1:0<=xaP X.cz c:=hsl.1;have hs2:xaP X.cz c<=0+6*((X.cz.length+1:Nat):Int):=hsl.2;rw[xeH ho hby c]
  exact xnt (by omega) (xaE (by omega) (by omega))
 have ha:0<=m.args/\m.args<=4:=by omega
 have ht:0<=m.temps/\m.temps<=6:=by omega
 have h1':decide (c<0)=false:=by simp;omega
 have h2':decide ((X.cz.length:Int)<=c)=false:=by simp;omega
 have h4':decide (m.args<0)=false:=by simp;omega
 have h5':decide (4<m.args)=false:=by simp;omega
 have h6':decide (m.temps<0)=false:=by simp;omega
 have h7':decide (6<m.temps)=false:=by simp;omega
 have h8':(m.prim != 0)=false:=by simp[hpr]
 have h9':((m.code.length:Int) == 0)=false:=beq_eq_false_iff_ne.2 (by omega)
 have h10':decide ((60:Int)<(m.code.length:Int))=false:=by simp;omega
 clear hR h0 hpr hcl hat hc1;go_enter Tryz.func17,Tryz.ntmps17
 go_upto_region 1 with (fail)
 have hS:=xiX w X (.slice ad X.cz.length cap) (.slice ah X.heap.length ch) m (.slice am m.code.length cm);generalize (((w.alloc (Obj.cells #[Value.slice ad X.cz.length cap,Value.slice ah X.heap.length ch,Value.int .i64 X.ez] 25)).alloc (Obj.cells #[Value.string m.name,Value.int .i64 m.args,Value.int .i64 m.temps,Value.int .i64 m.prim,Value.slice am m.code.length cm] 59)).alloc (Obj.cells #[Value.int .i64 0,Value.int .i64 0] 61))=W0 at *;have a0:=hS.a0;have m0:=hS.m0;go_wp2_with fail;refine (xeb m.name _ hmn).mono ?_;rw[hnb];rintro e w1 ⟨rfl,hb⟩;replace hS:=hS.later hb;clear hb a0 m0 hnb;have m1:=hS.m1
 have m2:=hS.m2;have m3:=hS.m3;have m4:=hS.m4;go_wp2;clear m1 m2 m3 m4 h1' h2' h4' h5' h6' h7' h8' h9' h10';generalize hnE:xgk (xa8 X.cz c) X.cz.length m=NE at *
 go_loopg [64] m.code.length (fun g i wr=>∃ j:Nat,j+g=m.code.length/\i=.int .i64 j/\RkS w X (.slice ad X.cz.length cap) (.slice ah X.heap.length ch) m (.slice am m.code.length cm) wr/\(∀ i x,i<j->m.code[i]?=some x->NE x=0))
 case atStart=>exact⟨0,by omega,rfl,hS,fun i x h=>by omega⟩
 case round=>
  clear hS;obtain⟨j,hg,rfl,hS,hD⟩:=hrel;have HD:Hid (∀ i x,i<j->m.code[i]?=some x->NE x=0):=hD;clear hD
  by_cases hj:j<m.code.length
  ·have hj1:(j:Int)<(m.code.length:Int):=by omega
   have hj0:(0:Int)<=(j:Int):=by omega
   obtain⟨x,hx⟩:∃ x,m.code[j]?=some x:=⟨_,List.getElem?_eq_getElem hj⟩;obtain⟨b,o,rfl,-,v0,v1,v2,v3,v4,hxn⟩:=hrow j x hx;simp only[Nat.add_zero] at v0;replace v0:=qzA hS.bel v0;replace v1:=qzA hS.bel v1;replace v2:=qzA hS.bel v2;replace v3:=qzA hS.bel v3;replace v4:=qzA hS.bel v4;have HX:Hid (m.code[j]?=some x):=hx;clear hx;have hb4:=xaj wr (Obj.cells #[Value.int .i64 x.op,Value.int .i64 x.a,Value.int .i64 x.b,Value.int .i64 x.c,Value.string x.name] 76);have hS4:=hS.later hb4;have a0:=hS4.a0;have a1:=hS4.a1;have a2:=hS4.a2;have m0:=hS4.m0;have m1:=hS4.m1;have m2:=hS4.m2;have m3:=hS4.m3;have m4:=hS4.m4
   go_wp2_with fail;refine (xir X c m x _ _ _ _ (hh.later xaz hS4.bel) (hH.later xaD hS4.bel) (hM.later xbl hS4.bel) ho ha ht hxn).mono ?_;rintro e w2 ⟨rfl,hb⟩;rw[HNR.out];replace hS:=hS4.later hb;clear hS4 hb hb4 a0 a1 a2 m0 m1 m2 m3 m4 v0 v1 v2 v3 v4
   by_cases h2:NE x=0
   ·have HND:Hid (∀ i y,i<j+1->m.code[i]?=some y->NE y=0):=fun i y h hy=>by
     by_cases hij:i=j
     ·subst hij;rw[HX.out] at hy
      cases hy
      exact h2
     ·exact HD.out i y (by omega) hy
    rw[h2];clear h2;go_wp2
    go_roundg (gk-1)
    case measure=>omega
    case rel=>exact⟨j+1,by omega,by go_num,hS,HND.out⟩
   ·have HRR:Hid (R=(NE x,(j:Int))):=HB.out j x HX.out HD.out h2;clear HB HG HNR HD;obtain⟨rc,rf⟩:=xoX hS.rb;generalize NE x=nx at *;have h2':(nx != 0)=true:=by simpa using h2
    go_wp2;refine qzK (v:=FV (nx,(j:Int))) ?_ rfl ⟨by rw[HRR.out],?_⟩
    ·simp[results,Tryz.results17,go_sem,rc,rf]
    ·exact ((hS.bel).setCell (by simp;omega) _).setCell (by simp;omega) _
  ·obtain rfl:j=m.code.length:=by omega
   have HRR:Hid (R=(xaH m.code).2):=HG.out fun i y hy=>HD.out i y (xae hy) hy
   have hso:xc5 m.code:=fun x hx=>by
    obtain⟨i,hi,rfl⟩:=List.mem_iff_getElem.1 hx;have:=HD.out i _ hi (List.getElem?_eq_getElem hi);rw[← hnE] at this
    exact xdW this
   clear HB HG HNR HD hrow;have m0:=hS.m0;have m1:=hS.m1;have m2:=hS.m2;have m3:=hS.m3;have m4:=hS.m4;have hj1:(m.code.length:Int)<=(m.code.length:Int):=by omega
   go_wp2_with fail;refine (xfD m _ _ (hM.later xbl hS.bel) hso).mono ?_;rintro e w2 ⟨a,n,k,rfl,hb⟩;replace hS:=hS.later hb;clear hb m0 m1 m2 m3 m4;have hz:w.heap.size+1+1<w2.heap.size:=xaf hS.rb;have rc:∀ z q,(w2.alloc z).cell? ⟨w.heap.size+1+1,q,none⟩=(#[Value.int .i64 0,.int .i64 0]:Array Value)[q]?:=fun z q=>by rw[qzB (xac hS.rb (xaj w2 z))]
   have rf:∀ z q,(w2.alloc z).frozen? ⟨w.heap.size+1+1,q,none⟩=false:=fun z q=>by unfold World.frozen?;simp[xac hS.rb (xaj w2 z)]
   generalize (xaH m.code).2=F at *;obtain⟨f1,f2⟩:=F;obtain⟨rc2,rf2⟩:=xoX hS.rb;obtain⟨sc0,sc1⟩:=xjo hS.rb (.int .i64 f1) (.int .i64 f2) (Obj.cells #[Value.int .i64 f1,Value.int .i64 f2] 61);have hne:¬ w2.heap.size=w.heap.size+1+1:=by omega
   have hne':¬ w.heap.size+1+1=w2.heap.size:=by omega
   go_wp2;refine qzK (v:=FV (f1,f2)) ?_ rfl ⟨by rw[HRR.out],?_⟩
   ·simp[results,Tryz.results17,go_sem,rc,rf,rc2,rf2,hne,hne',sc0,sc1]
   ·first
     | exact ((xah hS.bel (xaj _ _)).setCell (by simp;omega) _).setCell (by simp;omega) _
     | exact (((hS.bel).setCell (by simp;omega) _).setCell (by simp;omega) _).alloc (by rw[xbg,xbg];omega) _
theorem xja {P:Nat->Prop}(X:QW)(c:Int)(m:QM)(cv hv mv:Value)(w:World)(hh:xai P w cv X.cz)(hH:xaC P w hv X.heap)(hM:xa5 P w mv m.code)(hmn:m.name.size<=140737488351232)(ho:xbL X.cz):Calls Tryz.prog 17 #[WV cv hv X.ez,.int .i64 c,MV m mv] w fun e w'=>e=.returned (FV (xdY (xa8 X.cz c) X.cz.length c m))/\Below w.heap.size w w':=by
 unfold xdY
 by_cases h0:wmE X.cz.length c m=0
 ·rw[if_neg (by simp[h0])]
  exact xh6 X c m cv hv mv w hh hH hM hmn ho h0 _ rfl
 ·rw[if_pos h0];obtain⟨ad,cap,rfl,hl,hcap,hby,-⟩:=id hh;obtain⟨ah,ch,rfl⟩:=hH.get;obtain⟨am,cm,rfl,hl2,hcm,hcb,-⟩:=id hM
  exact xgY X c m ad ah am cap ch cm w (by omega) (by omega) hmn _ rfl h0
end Go.Proofs.YtapbeiccodnniaaGreat
