/- A part. -/
import Derived.Test.YtbafokihegegiaaGreatDoorT30
import Derived.Maps.OwnSet
import Derived.Maps.OwnOps
import Derived.StringKeys
namespace Go.Proofs.YtbafokihegegiaaGreatDoor
open Go.ChangeShapes Go.WideShapes Go.ChangeAt Go.RowKit Go.WideMaps Go.Maps
set_option linter.unusedSimpArgs false
set_option linter.unusedVariables false
set_option maxHeartbeats 8000000
set_option maxRecDepth 8000
theorem xxN:Keyed Tryz.prog 9:=string_keyed Tryz.underlying9
theorem xxI (w:qW):(zeroValue 3).run Tryz.prog w=.ok (J 0) w:=by kernel_rfl
theorem xuK {H:Type}{w w':qW}{k:TypeId}{R:Value->Option (DataW H × List MemPlace)}{b n:Nat}{D:DataW H}(h:w.ownsMap Tryz.prog k R b n D)(e:qY w w'):w'.ownsMap Tryz.prog k R b n D:=by
 obtain⟨es,a,c,d⟩:=h;exact⟨es,a,(e.block _ (By c)).trans c,d⟩
def Pt (D:DataW Unit)(l:List QC):Prop:=Maps.IsMap D/\∀s:ByteArray,Maps.has D (.string s.data.toList)=l.any λd=>CD d.name s
theorem xwy {D:DataW Unit}{l:List QC}(h:Pt D l)(x:QC)(d:DataW Unit):Pt (D.put (.string x.name.data.toList) d) (l++[x]):=by
 refine⟨h.1.put _ _,λs=>?_⟩;rw[List.any_append];by_cases he:x.name.data.toList=s.data.toList
 ·have e1:CD x.name s=true:=by unfold CD;rw[ByteArray.toList_eq,ByteArray.toList_eq,he];simp
  rw[← he,Maps.has_put_same h.1 (by simp[WideAt.IsKeyLit]),List.any_cons,e1];simp
 have e1:CD x.name s=false:=by unfold CD;rw[ByteArray.toList_eq,ByteArray.toList_eq];simpa using he
 rw[Maps.has_put_other (by intro a;injection a with a;exact he a.symm),h.2 s];simp[e1]
theorem xxf {xs:List QC}{k:Nat}{x:QC}(a:Gh xs k x.name=true):CY xs k x=7:=by
 unfold CY;split
 ·rfl
 split
 ·split
  ·rfl
  first | rfl | rw[if_pos a]
 first | rfl | rw[if_pos a]
theorem xxm {xs:List QC}{k:Nat}{x:QC}(h:DC x.name=false):CY xs k x=7:=by unfold CY;rw[if_pos h]
theorem xwI {xs:List QC}{k:Nat}{x y:QC}(h:DC x.name=true)(a:xo1[k]?=some y)(b:CD x.name y.name=false):CY xs k x=7:=by
 unfold CY;rw[if_neg (by simp[h]),a];simp only;rw[if_pos b]
theorem xw8 {xs:List QC}{k:Nat}{x y:QC}(h:DC x.name=true)(a:xo1[k]?=some y)(c:CD x.name y.name=true)(b:Gh xs k x.name=false):CY xs k x=if x.super≠y.super then 3 else if x.slots<0\/0<x.slots then 3 else 0:=by
 unfold CY;rw[if_neg (by simp[h]),a];simp only;rw[if_neg (by simp[c]),if_neg (by simp[b])]
theorem xxH {xs:List QC}{k:Nat}{x:QC}(h:DC x.name=true)(c:4<=k)(b:Gh xs k x.name=false):CY xs k x=if Dj k x.super=false then 3 else if x.slots<0\/6<x.slots then 3 else 0:=by
 have a:xo1[k]?=none:=List.getElem?_eq_none (by simpa [xo1] using c);unfold CY;rw[if_neg (by simp[h]),a];simp only;rw[if_neg (by simp[b])]
structure WkS (w:qW)(X:QW)(cv hv:Value)(bf og y1 Bm:Nat)(w':qW):Prop where
 S:WbS w X cv hv w'
 fc:BK (λ_=>True) w' (qS (some (O bf og)) 4 y1) xo1
 lt:w.heap.size<Bm
theorem WkS.later {w:qW}{X:QW}{cv hv:Value}{bf og y1 Bm:Nat}{w' w1:qW}(h:WkS w X cv hv bf og y1 Bm w')(a:qY w' w1):WkS w X cv hv bf og y1 Bm w1:=⟨h.S.later a,h.fc.later Bw a,h.lt⟩
theorem WkS.grown {w:qW}{X:QW}{cv hv:Value}{bf og y1 Bm:Nat}{w' w1:qW}(h:WkS w X cv hv bf og y1 Bm w')(a:w'.grownBy w1 (some Bm))(d:∃es c,w'.heap[Bm]?=some (.map es c)):WkS w X cv hv bf og y1 Bm w1:=by
 obtain⟨es,c,d⟩:=d;have f:=h.lt
 refine⟨⟨h.S.bel.grown a h.S.bel.size (λj i=>by cases i;omega),a.cell h.S.a0 (by simp;omega),a.cell h.S.a1 (by simp;omega),a.cell h.S.a2 (by simp;omega)⟩,h.fc.keep Bw (λb o v k e=>a.cell e (by
  intro g;have e2:b=Bm:=by simpa using g
  subst e2;unfold World.cell? at e;simp[d] at e)) λ_ h=>h,f⟩
theorem WkS.first {w:qW}{X:QW}{cv hv:Value}{bf og y1 Bm:Nat}{w':qW}(h:WkS w X cv hv bf og y1 Bm w'){k:Nat}{y:QC}(c:xo1[k]?=some y):w'.cell? (O bf (og+k*4))=some (qZ y.name)/\w'.cell? (O bf (og+k*4+1))=some (J y.super):=by
 obtain⟨a,c',e,-,-,-,d⟩:=h.fc;simp only[Value.slice.injEq] at e;obtain⟨rfl,-,-⟩:=e;obtain⟨b,o,e2,-,v0,v1,-⟩:=d k y c
 cases e2;exact⟨v0,v1⟩
structure WkC (w:qW)(X:QW)(cv hv:Value)(bf og y1 Bm j:Nat)(D:DataW Unit)(x:QC)(Bc:Nat)(w':qW):Prop where
 K:WkS w X cv hv bf og y1 Bm w'
 own:w'.ownsMap Tryz.prog 9 (plainElem (H:=Unit) Tryz.prog 3) Bm j D
 c0:w'.cell? (O Bc 0)=some (qZ x.name)
 c1:w'.cell? (O Bc 1)=some (J x.super)
 c2:w'.cell? (O Bc 2)=some (J x.slots)
theorem WkC.later {w:qW}{X:QW}{cv hv:Value}{bf og y1 Bm j:Nat}{D:DataW Unit}{x:QC}{Bc:Nat}{w' w1:qW}(h:WkC w X cv hv bf og y1 Bm j D x Bc w')(a:qY w' w1):WkC w X cv hv bf og y1 Bm j D x Bc w1:=
 ⟨h.K.later a,xuK h.own a,Bf a h.c0,Bf a h.c1,Bf a h.c2⟩
set_option maxRecDepth 100000 in
theorem xux {P:Nat->Prop}(X:QW)(cv hv:Value)(w:qW)(hh:BK P w cv X.cz)(hH:BP P w hv X.heap)(N:X.cz.length<=12):Calls Tryz.prog 168 #[WV cv hv X.ez] w λe w'=>e=.returned (J (CP (CY X.cz) 0 X.cz))/\qY w w':=by
 obtain⟨ad,cap,rfl,hl,u,U,F⟩:=id hh;obtain⟨ah,ch,rfl⟩:=hH.get;unfold maxLen at u
 have au:Hid (∀(j:Nat) x (v:Int),X.cz[j]?=some x->(∀i y,i<j->X.cz[i]?=some y->CY X.cz i y=0)->CY X.cz j x=v->v≠0->v=CP (CY X.cz) 0 X.cz):=λj x v hx hD e hv=>by
  subst e;exact (PH hx hv hD).symm
 have av:Hid ((∀i y,X.cz[i]?=some y->CY X.cz i y=0)->0=CP (CY X.cz) 0 X.cz):=λh=>(KL h).symm;generalize CP (CY X.cz) 0 X.cz=R at *;have az:=@run_makeMap Tryz.prog;have aw:=xvw;go_enter Tryz.func168,Tryz.ntmps168;go_upto_region 1 with (fail);have am:=Pw w X (qS ad X.cz.length cap) (qS ah X.heap.length ch);generalize (w.alloc (qA ad cap ah ch X))=W0 at *;go_wp2_with fail;refine (xwk _).mono ?_;rintro e w1 ⟨Q,T,rfl,m,r,q⟩;obtain⟨bf,og,y1,b3,o3,c3,rfl,-,-⟩:=xvc m;obtain⟨x2,y2,rfl⟩:=r.get;have a7:=am.later q;have a0:=λz=>Bf (Bg w1 z) a7.a0;go_wp2;have ao:WkS w X (qS ad X.cz.length cap) (qS ah X.heap.length ch) bf og y1 w1.heap.size (w1.alloc (.map #[] 0)):=⟨a7.later (Bg _ _),(m.mono Bw λ_ _=>trivial).later Bw (Bg _ _),World.block_lt_of_cell? _ _ a7.a0⟩
 have ar:(w1.alloc (.map #[] 0)).ownsMap Tryz.prog 9 (plainElem (H:=Unit) Tryz.prog 3) w1.heap.size 0 (.map []):=World.ownsMap_made _ _ _ _;clear a0 a7 m r q am;generalize (w1.alloc (.map #[] 0))=W3 at *;generalize w1.heap.size=Bm at *
 go_loopg [15] X.cz.length (λg i wr=>∃(j:Nat) (D:DataW Unit),j+g=X.cz.length/\i=J j/\WkS w X (qS ad X.cz.length cap) (qS ah X.heap.length ch) bf og y1 Bm wr/\wr.ownsMap Tryz.prog 9 (plainElem (H:=Unit) Tryz.prog 3) Bm j D/\Pt D (X.cz.take j)/\∀i y,i<j->X.cz[i]?=some y->CY X.cz i y=0)
 case atStart=>exact⟨0,.map [],by omega,rfl,ao,ar,⟨Maps.isMap_empty,λs=>rfl⟩,λi x h=>by omega⟩
 case round=>
  clear ao ar;obtain⟨j,D,hg,rfl,Z,Y,C,hD⟩:=hrel;have HD:Hid (∀i y,i<j->X.cz[i]?=some y->CY X.cz i y=0):=hD;have aa:Hid (Pt D (X.cz.take j)):=C;clear hD C;by_cases hj:j<X.cz.length
  ·have ax:(j:Int)<(X.cz.length:Int):=by omega
   have ay:(0:Int)<=(j:Int):=by omega
   obtain⟨x,hx⟩:∃x,X.cz[j]?=some x:=⟨_,List.getElem?_eq_getElem hj⟩;obtain⟨b,o,rfl,-,v0,v1,v2,M,mv,v3,L⟩:=F j x hx;obtain⟨k,c,rfl⟩:=L.get;simp only[Nat.add_zero] at v0;replace v0:=Bf Z.S.bel v0;replace v1:=Bf Z.S.bel v1;replace v2:=Bf Z.S.bel v2;replace v3:=Bf Z.S.bel v3;have HX:Hid (X.cz[j]?=some x):=hx;clear hx;have a3:Hid (∀v:Int,CY X.cz j x=v->v≠0->v=R):=λv e hv=>au.out j x v HX.out HD.out e hv
   have an:Hid (CY X.cz j x=0->∀i y,i<j+1->X.cz[i]?=some y->CY X.cz i y=0):=λh i y hi V=>by
    by_cases hij:i=j
    ·subst hij;rw[HX.out] at V
     cases V;exact h
    exact HD.out i y (by omega) V
   have a2:keyOf Tryz.prog 9 (qZ x.name)=some (.string x.name.data.toList):=keyOf_string_mk Tryz.underlying9 (by unfold maxLen;omega);have ai:=Bg wr (qC #[qZ x.name,J x.super,J x.slots,qS k x.mz.length c] 80);have c0:(wr.alloc (qC #[qZ x.name,J x.super,J x.slots,qS k x.mz.length c] 80)).cell? (O wr.heap.size 0)=some (qZ x.name):=by rw[Bp _ _ _ _ rfl];rfl
   have c1:(wr.alloc (qC #[qZ x.name,J x.super,J x.slots,qS k x.mz.length c] 80)).cell? (O wr.heap.size 1)=some (J x.super):=by rw[Bp _ _ _ _ rfl];rfl
   have c2:(wr.alloc (qC #[qZ x.name,J x.super,J x.slots,qS k x.mz.length c] 80)).cell? (O wr.heap.size 2)=some (J x.slots):=by rw[Bp _ _ _ _ rfl];rfl
   replace Z:=Z.later ai;replace Y:=xuK Y ai;go_upto_region 6 with (fail);clear v0 v1 v2 v3 ai;generalize wr.heap.size=Bc at *;generalize (wr.alloc (qC #[qZ x.name,J x.super,J x.slots,qS k x.mz.length c] 80))=W4 at *;have a4:Hid (Maps.has D (.string x.name.data.toList)=Gh X.cz j x.name):=aa.out.2 x.name
   cases a1:Maps.has D (.string x.name.data.toList)
   case true=>
    have H7:Hid (7=R):=a3.out 7 (xxf (by rw[← a4.out];exact a1)) (by decide);go_wp2_with (at_lookup;refine wpList_lookup_own_ok_int _ rfl _ _ 280 rfl 9 3 .i64 xxN Tryz.underlying280 Tryz.underlying3 (xxI _) Bm j D rfl Y _ _ rfl a2 ?_;intro cc B G;rw[a1]);go_ret;exact⟨BT H7.out,Z.S.bel⟩
   have af:Hid (Gh X.cz j x.name=false):=by show _=_;rw[← a4.out];exact a1
   have aq:Hid (∀d,Pt (D.put (.string x.name.data.toList) d) (X.cz.take (j+1))):=λd=>by
    rw[List.take_add_one,HX.out];exact xwy aa.out x d
   have ap:(Lit.int .i64 (j:Int)).wf=true:=by
    have h:=wrap64_wf (j:Int);rw[show wrap64 (j:Int)=(j:Int) by unfold wrap64;omega] at h;exact h
   go_wp2_with (at_lookup;refine wpList_lookup_own_ok_int _ rfl _ _ 280 rfl 9 3 .i64 xxN Tryz.underlying280 Tryz.underlying3 (xxI _) Bm j D rfl Y _ _ rfl a2 ?_;intro cc B G;rw[a1]);refine (Qj x.name _ M).mono ?_;rintro e w5 ⟨rfl,hb⟩;replace Z:=Z.later hb;replace Y:=xuK Y hb;replace c0:=Bf hb c0;replace c1:=Bf hb c1;replace c2:=Bf hb c2;clear hb B G a4 aa
   cases a5:DC x.name
   ·have H7:Hid (7=R):=a3.out 7 (xxm a5) (by decide);go_wp2;go_ret;exact⟨BT H7.out,Z.S.bel⟩
   have W:WkC w X (qS (some (O b o)) X.cz.length cap) (qS ah X.heap.length ch) bf og y1 Bm j D x Bc w5:=⟨Z,Y,c0,c1,c2⟩;clear Y c1 c2;by_cases hnw:∃y,xo1[j]?=some y/\CD x.name y.name=false
   ·obtain⟨y,V,t⟩:=hnw;have j4:j<4:=Bz V;have j4':(j:Int)<4:=by omega
    obtain⟨u0,-⟩:=Z.first V;have H7:Hid (7=R):=a3.out 7 (xwI a5 V t) (by decide);have al:(x.name.toList == y.name.toList)=false:=t;clear V;go_wp2;go_quiet (fail);go_wp2;go_ret;exact⟨BT H7.out,below_drewN Z.S.bel _⟩
   have ab:Hid (∀y,xo1[j]?=some y->CD x.name y.name=true):=λy V=>by
    cases he:CD x.name y.name
    ·exact absurd ⟨y,V,he⟩ hnw
    rfl
   clear hnw;go_upto_region 9 with (fail)
   go_cut [35] (λs wx=>s=.bool false/\WkC w X (qS (some (O b o)) X.cz.length cap) (qS ah X.heap.length ch) bf og y1 Bm j D x Bc wx)
   case first=>
    by_cases j4:j<4
    ·obtain⟨y,V⟩:∃y,xo1[j]?=some y:=⟨_,List.getElem?_eq_getElem (show j<xo1.length from j4)⟩
     have j4':(j:Int)<4:=by omega
     obtain⟨u0,-⟩:=Z.first V;have al:(x.name.toList == y.name.toList)=true:=ab.out y V;clear V;go_quiet (fail);go_wp2_with fail;go_meet
     case rel=>exact⟨rfl,W.later (below_drewN (Br _ _) _)⟩
    have j4':decide ((j:Int)<4)=false:=by simp;omega
    go_quiet (fail);go_wp2_with fail;go_meet
    case rel=>exact⟨rfl,W.later (below_drewN (Br _ _) _)⟩
   case rest=>
    clear W Z c0;obtain⟨rfl,W⟩:=hcut;have c1:=W.c1;have c2:=W.c2;by_cases hbad:∃y,xo1[j]?=some y/\(x.super≠y.super\/x.slots≠0)
    ·obtain⟨y,V,l⟩:=hbad;have j4:j<4:=Bz V;have j4':(j:Int)<4:=by omega
     obtain⟨-,u1⟩:=W.K.first V
     have H3:Hid (3=R):=a3.out 3 (by
      rw[xw8 a5 V (ab.out y V) af.out];rcases l with h | h
      ·rw[if_pos h]
      ·by_cases h2:x.super≠y.super
       ·rw[if_pos h2]
       ·rw[if_neg h2,if_pos (by omega)]) (by decide)
     clear V;by_cases s1:x.super=y.super
     ·have s1':(x.super != y.super)=false:=by simp[s1]
      have s2':(x.slots != 0)=true:=by
       rcases l with h | h
       ·exact absurd s1 h
       simpa using h
      clear l s1;go_wp2;go_quiet (fail);go_wp2;go_ret;exact⟨BT H3.out,below_drewN W.K.S.bel _⟩
     have s1':(x.super != y.super)=true:=by simpa using s1
     clear l s1;go_wp2;go_quiet (fail);go_wp2;go_ret;exact⟨BT H3.out,below_drewN W.K.S.bel _⟩
    have a6:Hid (∀y,xo1[j]?=some y->x.super=y.super/\x.slots=0):=λy V=>by
     refine⟨?_,?_⟩
     ·by_cases h:x.super=y.super
      ·exact h
      exact absurd ⟨y,V,Or.inl h⟩ hbad
     by_cases h:x.slots=0
     ·exact h
     exact absurd ⟨y,V,Or.inr h⟩ hbad
    clear hbad;go_upto_region 11 with (fail)
    go_cut [50] (λs wx=>s=.bool false/\WkC w X (qS (some (O b o)) X.cz.length cap) (qS ah X.heap.length ch) bf og y1 Bm j D x Bc wx)
    case first=>
     by_cases j4:j<4
     ·obtain⟨y,V⟩:∃y,xo1[j]?=some y:=⟨_,List.getElem?_eq_getElem (show j<xo1.length from j4)⟩
      have j4':(j:Int)<4:=by omega
      obtain⟨-,u1⟩:=W.K.first V;obtain⟨e1,e2⟩:=a6.out y V;have s1':(x.super != y.super)=false:=by simp[e1]
      have s2':(x.slots != 0)=false:=by simp[e2]
      clear V e1 e2;go_quiet (fail);go_wp2_with fail;go_meet
      case rel=>exact⟨rfl,W.later (below_drewN (Br _ _) _)⟩
     have j4':decide ((j:Int)<4)=false:=by simp;omega
     go_quiet (fail);go_wp2_with fail;go_meet
     case rel=>exact⟨rfl,W.later (below_drewN (Br _ _) _)⟩
    case rest=>
     clear W c1 c2;obtain⟨rfl,W⟩:=hcut;have c1:=W.c1;have c2:=W.c2;by_cases j4:j<4
     ·obtain⟨y,V⟩:∃y,xo1[j]?=some y:=⟨_,List.getElem?_eq_getElem (show j<xo1.length from j4)⟩
      obtain⟨e1,e2⟩:=a6.out y V;have aj:Hid (CY X.cz j x=0):=by show _=_;rw[xw8 a5 V (ab.out y V) af.out,if_neg (by simp[e1]),if_neg (by omega)]
      have a8:Cj x.slots 0 6=true:=by unfold Cj;simp;omega
      have j4'':decide ((4:Int)<=(j:Int))=false:=by simp;omega
      clear V e1 e2;go_wp2_with fail;refine (Nh _ 0 6 _).mono ?_;rw[a8];rintro e w6 ⟨rfl,hw⟩;subst hw;clear c1 c2;have c0:=W.c0;go_wp2_with (at_mapUpdate;refine wpList_mapUpdate_own _ rfl _ _ _ 280 rfl 9 3 xxN Tryz.underlying280 _ Bm j D rfl W.own (by unfold maxLen;omega) _ _ _ rfl rfl a2 _ [] (plainElem_int Tryz.underlying3 ap) ?_;intro w9 f a);obtain⟨es,p,n,-⟩:=W.own;have ae:=W.K.grown a ⟨es,p,n⟩;clear W a c0;go_wp2;go_roundg (gk-1)
      case measure=>omega
      case rel=>exact⟨j+1,_,by omega,by go_num,ae,f,aq.out _,an.out aj.out⟩
     have j4'':(4:Int)<=(j:Int):=by omega
     have ak:Hid (CY X.cz j x=if Dj j x.super=false then 3 else if x.slots<0\/6<x.slots then 3 else 0):=xxH a5 (by omega) af.out;go_wp2_with fail;refine (xui j x.super _ ⟨by omega,by omega⟩).mono ?_;rintro e w6 ⟨rfl,hw⟩;subst hw
     cases ag:Dj (j:Int) x.super
     ·have H3:Hid (3=R):=a3.out 3 (by rw[ak.out,if_pos ag]) (by decide);go_wp2;go_ret;exact⟨BT H3.out,W.K.S.bel⟩
     go_wp2_with fail;refine (Nh _ 0 6 _).mono ?_;rintro e w7 ⟨rfl,hw⟩;subst hw
     cases a8:Cj x.slots 0 6
     ·have a9:¬ (0<=x.slots/\x.slots<=6):=by simpa [Cj] using a8
      have H3:Hid (3=R):=a3.out 3 (by rw[ak.out,if_neg (by simp[ag]),if_pos (by omega)]) (by decide);go_wp2;go_ret;exact⟨BT H3.out,W.K.S.bel⟩
     have a9:0<=x.slots/\x.slots<=6:=by simpa [Cj] using a8
     have aj:Hid (CY X.cz j x=0):=by show _=_;rw[ak.out,if_neg (by simp[ag]),if_neg (by omega)]
     clear c1 c2 a9;have c0:=W.c0;go_wp2_with (at_mapUpdate;refine wpList_mapUpdate_own _ rfl _ _ _ 280 rfl 9 3 xxN Tryz.underlying280 _ Bm j D rfl W.own (by unfold maxLen;omega) _ _ _ rfl rfl a2 _ [] (plainElem_int Tryz.underlying3 ap) ?_;intro w9 f a);obtain⟨es,p,n,-⟩:=W.own;have ae:=W.K.grown a ⟨es,p,n⟩;clear W a c0;go_wp2;go_roundg (gk-1)
     case measure=>omega
     case rel=>exact⟨j+1,_,by omega,by go_num,ae,f,aq.out _,an.out aj.out⟩
  obtain rfl:j=X.cz.length:=by omega
  have a6:Hid (0=R):=av.out λi y V=>HD.out i y (Bz V) V;go_wp2;go_ret;exact⟨BT a6.out,Z.S.bel⟩
theorem xvu {X:QW}:BM X=if Ll X≠0 then Ll X else if CP (CY X.cz) 0 X.cz≠0 then CP (CY X.cz) 0 X.cz else if CP (Dm X) 0 X.cz≠0 then CP (Dm X) 0 X.cz else CP (Ev X) 0 X.heap:=by
 unfold BM Ll;by_cases h1:X.cz.length<4\/12<X.cz.length\/60<X.heap.length
 ·rw[if_pos h1,if_pos h1];simp
 rw[if_neg h1,if_neg h1];by_cases h2:X.ez<0\/1073741824<X.ez
 ·rw[if_pos h2,if_pos h2];simp
 rw[if_neg h2,if_neg h2];simp
theorem xvr {X:QW}(h:Ll X=0):X.cz.length<=12:=by
 unfold Ll at h;split at h
 ·cases h
 omega
theorem xuX {P:Nat->Prop}(X:QW)(cv hv:Value)(w:qW)(g:BK P w cv X.cz)(k:BP P w hv X.heap):Calls Tryz.prog 118 #[WV cv hv X.ez] w λe w'=>e=.returned (J (BM X))/\qY w w':=by
 obtain⟨ad,cap,rfl⟩:=g.get;obtain⟨ah,ch,rfl⟩:=k.get;rw[xvu];have p:Hid (Ll X=0->X.cz.length<=12):=xvr;have r:=λw' (h:qY w w')=>xu4 X _ _ w' (g.later Bw h) (k.later BB h);have s:=λ(hn:X.cz.length<=12) w' (h:qY w w')=>xux X _ _ w' (g.later Bw h) (k.later BB h) hn;have t:=λw' (h:qY w w')=>xuw X _ _ w' (g.later Bw h) (k.later BB h);have u:=λ(hn:X.cz.length<=12) w' (h:qY w w')=>xu6 X _ _ w' (g.later Bw h) (k.later BB h) hn;generalize Ll X=r1 at *;generalize CP (CY X.cz) 0 X.cz=r2 at *;generalize CP (Dm X) 0 X.cz=r3 at *;generalize CP (Ev X) 0 X.heap=r4 at *;obtain⟨R,q⟩:∃R,R=(if r1≠0 then r1 else if r2≠0 then r2 else if r3≠0 then r3 else r4):=⟨_,rfl⟩;rw[← q];have n:Hid (R=(if r1≠0 then r1 else if r2≠0 then r2 else if r3≠0 then r3 else r4)):=q;clear q;go_enter Tryz.func118,Tryz.ntmps118;go_upto_region 1 with (fail);have a:=Pw w X (qS ad X.cz.length cap) (qS ah X.heap.length ch);generalize (w.alloc (qA ad cap ah ch X))=W0 at *;have a0:=a.a0;have a1:=a.a1;have a2:=a.a2;go_wp2_with fail;refine (r _ a.bel).mono ?_;rintro e w1 ⟨rfl,b⟩;replace a:=a.later b;clear b a0 a1 a2;by_cases h1:r1=0
 case neg=>
  have j:(r1 != 0)=true:=by simpa using h1
  have m:Hid (r1=R):=by show _=_;rw[n.out,if_pos h1]
  clear h1 n;go_wp2;go_ret;exact⟨BT m.out,a.bel⟩
 have f:=p.out h1;have j:(r1 != 0)=false:=by simp[h1]
 have d:Hid (R=(if r2≠0 then r2 else if r3≠0 then r3 else r4)):=by show _=_;rw[n.out,if_neg (by simp[h1])]
 clear h1 n;have a0:=a.a0;have a1:=a.a1;have a2:=a.a2;go_wp2_with fail;refine (s f _ a.bel).mono ?_;rintro e w2 ⟨rfl,b⟩;replace a:=a.later b;clear b a0 a1 a2 j;by_cases h2:r2=0
 case neg=>
  have i:(r2 != 0)=true:=by simpa using h2
  have m:Hid (r2=R):=by show _=_;rw[d.out,if_pos h2]
  clear h2 d;go_wp2;go_ret;exact⟨BT m.out,a.bel⟩
 have i:(r2 != 0)=false:=by simp[h2]
 have c:Hid (R=(if r3≠0 then r3 else r4)):=by show _=_;rw[d.out,if_neg (by simp[h2])]
 clear h2 d;have a0:=a.a0;have a1:=a.a1;have a2:=a.a2;go_wp2_with fail;refine (t _ a.bel).mono ?_;rintro e w3 ⟨rfl,b⟩;replace a:=a.later b;clear b a0 a1 a2 i;by_cases h3:r3=0
 case neg=>
  have l:(r3 != 0)=true:=by simpa using h3
  have m:Hid (r3=R):=by show _=_;rw[c.out,if_pos h3]
  clear h3 c;go_wp2;go_ret;exact⟨BT m.out,a.bel⟩
 have l:(r3 != 0)=false:=by simp[h3]
 have o:Hid (r4=R):=by show _=_;rw[c.out,if_neg (by simp[h3])]
 clear h3 c;have a0:=a.a0;have a1:=a.a1;have a2:=a.a2;go_wp2_with fail;refine (u f _ a.bel).mono ?_;rintro e w4 ⟨rfl,b⟩;replace a:=a.later b;clear b a0 a1 a2 l;go_wp2;go_ret;exact⟨BT o.out,a.bel⟩
theorem Gj {α β:Type}{f:List UInt8->Option (α × List UInt8)}{g:α->List UInt8->Option (β × List UInt8)}{st s1 s2:Option (List UInt8)}{a:α}{b:β}(i:RdR f st a s1)(h:RdR (g a) s1 b s2):RdR (λl=>(f l).bind λp=>g p.1 p.2) st b s2:=by
 rcases i.cases with ⟨l,r,rfl,d,rfl⟩ | ⟨rfl,d⟩
 ·rcases h.cases with ⟨l2,r2,e,c,rfl⟩ | ⟨rfl,c⟩
  ·cases e;exact RdR.some (by rw[d];exact c)
  exact RdR.bad _ (by rw[d];exact c _ rfl)
 obtain rfl:s2=none:=h
 cases st with
 | none=>exact RdR.none _
 | some l=>exact RdR.bad _ (by rw[d l rfl];rfl)
theorem Nw {α:Type}(x:α)(st:Option (List UInt8)):RdR (λl=>some (x,l)) st x st:=by
 cases st with
 | none=>rfl
 | some l=>exact RdR.some rfl
abbrev OW (x:QO)(sv:Value):Value:=.agg #[J x.cls,sv]
theorem xvd {st s1 s2 s3:Option (List UInt8)}{a b:Int}{nm:ByteArray}(d:RdR Dd st a s1)(e:RdR Dd s1 b s2)(c:if a=14 then RdR Fp s2 nm s3 else nm=⟨#[]⟩/\s3=s2):RdR GS st ⟨a,b,0,0,nm⟩ s3:=by
 refine Gj (g:=λa l=>(Dd l).bind λq=>if a=14 then (Fp q.2).bind λs=>some (QI.mk a q.1 0 0 s.1,s.2) else some (QI.mk a q.1 0 0 ⟨#[]⟩,q.2)) d ?_;refine Gj (g:=λb l=>if a=14 then (Fp l).bind λs=>some (QI.mk a b 0 0 s.1,s.2) else some (QI.mk a b 0 0 ⟨#[]⟩,l)) e ?_;by_cases h:a=14
 ·simp only[if_pos h] at c ⊢;exact Gj (g:=λs l=>some (QI.mk a b 0 0 s,l)) c (Nw _ _)
 simp only[if_neg h] at c ⊢;obtain⟨rfl,rfl⟩:=c;exact Nw _ _
theorem xwR {st s1 s2 s3 s4 s5:Option (List UInt8)}{nm:ByteArray}{a b c:Int}{cd:List QI}(f:RdR Fp st nm s1)(j:RdR Dd s1 a s2)(k:RdR Dd s2 b s3)(h:RdR Dd s3 c s4)(i:RdR (DM GS 60) s4 cd s5):RdR Kj st ⟨nm,a,b,c,cd⟩ s5:=
 Gj (g:=λnm l=>(Dd l).bind λb=>(Dd b.2).bind λc=>(Dd c.2).bind λd=>(DM GS 60 d.2).bind λe=>some (QM.mk nm b.1 c.1 d.1 e.1,e.2)) f
  (Gj (g:=λa l=>(Dd l).bind λc=>(Dd c.2).bind λd=>(DM GS 60 d.2).bind λe=>some (QM.mk nm a c.1 d.1 e.1,e.2)) j
   (Gj (g:=λb l=>(Dd l).bind λd=>(DM GS 60 d.2).bind λe=>some (QM.mk nm a b d.1 e.1,e.2)) k
    (Gj (g:=λc l=>(DM GS 60 l).bind λe=>some (QM.mk nm a b c e.1,e.2)) h
     (Gj (g:=λcd l=>some (QM.mk nm a b c cd,l)) i (Nw _ _)))))
theorem xwz {st s1 s2 s3 s5:Option (List UInt8)}{nm:ByteArray}{a b:Int}{cd:List QM}(f:RdR Fp st nm s1)(h:RdR Dd s1 a s2)(i:RdR Dd s2 b s3)(d:RdR (DM Kj 8) s3 cd s5):RdR Lk st ⟨nm,a,b,cd⟩ s5:=
 Gj (g:=λnm l=>(Dd l).bind λb=>(Dd b.2).bind λc=>(DM Kj 8 c.2).bind λe=>some (QC.mk nm b.1 c.1 e.1,e.2)) f
  (Gj (g:=λa l=>(Dd l).bind λc=>(DM Kj 8 c.2).bind λe=>some (QC.mk nm a c.1 e.1,e.2)) h
   (Gj (g:=λb l=>(DM Kj 8 l).bind λe=>some (QC.mk nm a b e.1,e.2)) i
    (Gj (g:=λcd l=>some (QC.mk nm a b cd,l)) d (Nw _ _))))
theorem xxy {st s1 s2:Option (List UInt8)}{a:Int}{cd:List QV}(b:RdR Dd st a s1)(c:RdR (DM Hs 6) s1 cd s2):RdR Kv st ⟨a,cd⟩ s2:=
 Gj (g:=λa l=>(DM Hs 6 l).bind λe=>some (QO.mk a e.1,e.2)) b (Gj (g:=λcd l=>some (QO.mk a cd,l)) c (Nw _ _))
theorem xwm {st s1 s2 s3:Option (List UInt8)}{a:Int}{cs:List QC}{os:List QO}(b:RdR Dd st a s1)(d:RdR (DM Lk 12) s1 cs s2)(f:RdR (DM Kv 60) s2 os s3):RdR Ms st ⟨cs,os,a⟩ s3:=
 Gj (g:=λa l=>(DM Lk 12 l).bind λc=>(DM Kv 60 c.2).bind λe=>some (QW.mk c.1 e.1 a,e.2)) b
  (Gj (g:=λcs l=>(DM Kv 60 l).bind λe=>some (QW.mk cs e.1 a,e.2)) d
   (Gj (g:=λos l=>some (QW.mk cs os a,l)) f (Nw _ _)))
theorem xvt {br:Nat}{w:qW}{st:Option (List UInt8)}(h:RdS br w st):Calls Tryz.prog 166 #[qP br] w λe w'=>∃(x:QO) (sv:Value) (g:Option (List UInt8)),e=.returned (OW x sv)/\CG (λb=>w.heap.size<=b) w' sv x.slots/\RdR Kv st x g/\RdS br w' g/\RdK br w w':=by
 have l:=NY h #[J 0,qN] 84;have r:=h.lt;clear h;go_enter Tryz.func166,Tryz.ntmps166;go_upto_region 2 with (fail);generalize ((w.alloc (qC #[J 0,qN] 84)).alloc (qC #[J 0,qN] 84))=W0 at *;go_wp2_with (go_at_call 162;refine (Kg l.S).mono ?_;rintro e w1 ⟨n1,s1,rfl,j,k,d,f⟩;refine Hid.out ?_);refine Lib.hid ?_;replace l:=l.call d f;have c0:w1.cell? (O (w.heap.size+1) 0)=some (J 0):=l.c 0;have cf:=BN l.box;replace l:=l.set 0 (J n1);clear d f;go_upto_region 3 with (fail);clear c0 cf;generalize (w1.setCell (O (w.heap.size+1) 0) (J n1))=W1 at *;have o:=By l.box;go_wp2_with (go_at_call 212;refine (xwF 6 (by omega) l.S).mono ?_;rintro e w2 ⟨n2,g2,s2,rfl,m,i,d,f⟩;refine Hid.out ?_);refine Lib.hid ?_;replace m:IsRow _ _ _ (λb=>w.heap.size+2<=b) _ _ _:=m.mono BZ λb n=>by omega
 clear o;replace l:=l.call d f;have c0:w2.cell? (O (w.heap.size+1) 1)=some (qN):=l.c 1;have cf:=BN l.box;replace l:=l.set 1 (qG g2 n2.length n2.length);clear d f;replace m:=m.keep BZ (Keeps.of_setCell (a:=(O (w.heap.size+1) 1)) (by simp) (qG g2 n2.length n2.length)) λb n=>n;go_upto_region 4 with (fail);clear c0 cf;generalize (w2.setCell (O (w.heap.size+1) 1) (qG g2 n2.length n2.length))=W2 at *;have d0:W2.cell? (O (w.heap.size+1) 0)=some (J n1):=l.c 0;have d1:W2.cell? (O (w.heap.size+1) 1)=some (qG g2 n2.length n2.length):=l.c 1;have z0:W2.cell? (O w.heap.size 0)=some (J 0):=l.z 0;have z1:W2.cell? (O w.heap.size 1)=some (qN):=l.z 1;have zf:=BN l.res;have q:=hid (l.fin [J n1,qG g2 n2.length n2.length]);have p:=hid ((m.keep BZ (Keeps.of_block (w':=W2.setCells w.heap.size 0 [J n1,qG g2 n2.length n2.length]) λb n s=>Er (by omega) _ _ _) λb n=>n).mono (Q:=λb=>w.heap.size<=b) BZ λb n=>by omega);clear m;go_wp2;refine Bt (v:=OW ⟨n1,n2⟩ (qG g2 n2.length n2.length)) ?_ rfl ⟨⟨n1,n2⟩,_,s2,rfl,p.out,xxy j i,q.out.1,q.out.2⟩;simp[results,Tryz.results166,go_sem,z0,z1]
theorem xwg {br:Nat}{w:qW}{st:Option (List UInt8)}(a:Nat)(U:a<=1000)(h:RdS br w st):Calls Tryz.prog 165 #[qP br,J (a:Int),.func (.func 166) #[qP br] #[]] w λe w'=>∃(xs:List QO) (g:Nat) (p:Option (List UInt8)),e=.returned (qG g xs.length xs.length)/\IsRow LG 2 32 (λb=>w.heap.size<=b) w' (qG g xs.length xs.length) xs/\RdR (DM Kv a) st xs p/\RdS br w' p/\RdK br w w':=by
 have K:=h.lt;go_enter Tryz.func165,Tryz.ntmps165;go_wp2_with (go_at_call 209;refine (Pm a U h).mono ?_;rintro e w1 ⟨n,t,rfl,u,hn,j,l⟩;refine Hid.out ?_);refine Lib.hid ?_;have L:=xox n (by omega);have W:=l.bel.size;have D:RowSt LG 2 84 w.heap.size (w1.alloc (.cells (madeCells #[J 0,qN] (n*2)) 84)) w1.heap.size n []:=RowSt.start _ _ _ (size_madeCells _ _);have z:=j.later (Bg w1 (.cells (madeCells #[J 0,qN] (n*2)) 84));have C:=l.trans (.of_below (Nat.le_of_lt j.lt) (Bg w1 (.cells (madeCells #[J 0,qN] (n*2)) 84)));clear j l;go_wp2_with (fail);generalize (w1.alloc (.cells (madeCells #[J 0,qN] (n*2)) 84))=W1 at *;generalize w1.heap.size=B at *
 go_loopg [15] n (λg c wr=>∃(ys:List QO) (d:Option (List UInt8)),ys.length+g=n/\c=J (ys.length:Int)/\RowSt LG 2 84 w.heap.size wr B n ys/\RdR (EP Kv ys.length) t ys d/\RdS br wr d/\RdK br w wr)
 case atStart=>exact⟨[],t,by simp,rfl,D,Qg _,z,C⟩
 case round=>
  clear D z C L;obtain⟨ys,d,Q,rfl,H,k,M,F⟩:=hrel;by_cases hj:ys.length<n
  ·have R:(ys.length:Int)<(n:Int):=by omega
   have T:(0:Int)<=(ys.length:Int):=by omega
   have a0:B<wr.heap.size:=by obtain⟨⟨c,X,-⟩,-⟩:=id H;exact By X
   go_wp2_with (go_at_call 166;refine (xvt M).mono ?_;rintro e w2 ⟨x,sv,v,rfl,G,s,r,m⟩;refine Hid.out ?_);refine Lib.hid ?_;have y:=H.keep BB m K (by omega);have V:=F.bel.size;obtain⟨⟨cur,k1,k2⟩,k3⟩:=id y;have f1:∀o,w2.frozen? (O B o)=false:=BN k1;have a1:ys.length*2+2<=n*2:=by omega
   obtain⟨q0,e0⟩:∃q,w2.cell? (O B (ys.length*2))=some q:=⟨_,by rw[Bn k1];exact Array.getElem?_eq_getElem (by omega)⟩
   obtain⟨q1,e1⟩:∃q,w2.cell? (O B (ys.length*2+1))=some q:=⟨_,by rw[Bn k1];exact Array.getElem?_eq_getElem (by omega)⟩
   replace G:CG (λb=>w.heap.size<=b/\b≠B) w2 sv x.slots:=G.mono BZ λb hb=>by omega
   obtain⟨f,i,rfl⟩:=G.get;have Y:=hid (RdS.setsHi (show br<B by omega) [J x.cls,qS f x.slots.length i] (ys.length*2) _ r);have Z:=hid (RdK.setsHi (show w.heap.size<=B by omega) (show br<=B by omega) [J x.cls,qS f x.slots.length i] (ys.length*2) _ (F.trans m));have S:=hid (y.step BB hj (vs:=[J x.cls,qS f x.slots.length i]) rfl ⟨rfl,_,rfl,G⟩);have HQ:=hid (QR k s);have N:=hid Q;clear y r m k s M F k3 H Q;go_wp2;go_roundg (gk-1)
   case measure=>have:=N.out;omega
   case rel=>exact⟨ys++[x],v,by have:=N.out;simp;omega,by simp;try go_num,S.out,by rw[List.length_append];exact HQ.out,Y.out,Z.out⟩
  obtain rfl:n=ys.length:=by omega
  go_wp2;go_ret;exact⟨ys,B,d,rfl,H.row BB rfl (by omega) (by omega) (by omega),PB u k,M,F⟩
theorem xvS {br:Nat}{w:qW}{st:Option (List UInt8)}(h:RdS br w st):Calls Tryz.prog 247 #[qP br] w λe w'=>∃(x:QI) (d:Option (List UInt8)),e=.returned (IV x)/\x.name.size<=140737488351232/\RdR GS st x d/\RdS br w' d/\RdK br w w':=by
 have m:=NY h #[J 0,J 0,J 0,J 0,qZ ⟨#[]⟩] 69;have q:=h.lt;clear h;go_enter Tryz.func247,Tryz.ntmps247;go_upto_region 2 with (fail);generalize ((w.alloc (qC #[J 0,J 0,J 0,J 0,qZ ⟨#[]⟩] 69)).alloc (qC #[J 0,J 0,J 0,J 0,qZ ⟨#[]⟩] 69))=W0 at *;go_wp2_with (go_at_call 162;refine (Kg m.S).mono ?_;rintro e w1 ⟨n1,s1,rfl,g,l,a,b⟩;refine Hid.out ?_);refine Lib.hid ?_;replace m:=m.call a b;have c0:w1.cell? (O (w.heap.size+1) 0)=some (J 0):=m.c 0;have cf:=BN m.box;replace m:=m.set 0 (J n1);clear a b;go_upto_region 3 with (fail);clear c0 cf;generalize (w1.setCell (O (w.heap.size+1) 0) (J n1))=W1 at *;go_wp2_with (go_at_call 162;refine (Kg m.S).mono ?_;rintro e w2 ⟨n2,s2,rfl,f,k,a,b⟩;refine Hid.out ?_);refine Lib.hid ?_;replace m:=m.call a b;have c0:w2.cell? (O (w.heap.size+1) 1)=some (J 0):=m.c 1;have cf:=BN m.box;replace m:=m.set 1 (J n2);clear a b;go_upto_region 4 with (fail);clear c0 cf;generalize (w2.setCell (O (w.heap.size+1) 1) (J n2))=W2 at *;have d0:W2.cell? (O (w.heap.size+1) 0)=some (J n1):=m.c 0;by_cases h14:n1=14
 ·have n:(n1 == 14)=true:=by simpa using h14
  have p:Hid (∀nm s3,RdR Fp s2 nm s3->RdR GS st ⟨n1,n2,0,0,nm⟩ s3):=λnm s3 r=>xvd g f (by rw[if_pos h14];exact r);clear h14;go_wp2_with (go_at_call 207;refine (xum m.S).mono ?_;rintro e w3 ⟨n3,s3,rfl,j,-,i,a,b⟩;refine Hid.out ?_);refine Lib.hid ?_;replace m:=m.call a b;have c0:w3.cell? (O (w.heap.size+1) 4)=some (qZ ⟨#[]⟩):=m.c 4;have cf:=BN m.box;replace m:=m.set 4 (qZ n3);clear a b;go_upto_region 6 with (fail);clear c0 cf;generalize (w3.setCell (O (w.heap.size+1) 4) (qZ n3))=W3 at *;clear d0 n;have d0b:W3.cell? (O (w.heap.size+1) 0)=some (J n1):=m.c 0;have d1:W3.cell? (O (w.heap.size+1) 1)=some (J n2):=m.c 1;have d2:W3.cell? (O (w.heap.size+1) 2)=some (J 0):=m.c 2;have d3:W3.cell? (O (w.heap.size+1) 3)=some (J 0):=m.c 3;have d4:W3.cell? (O (w.heap.size+1) 4)=some (qZ n3):=m.c 4;have z0:W3.cell? (O w.heap.size 0)=some (J 0):=m.z 0;have z1:W3.cell? (O w.heap.size 1)=some (J 0):=m.z 1;have z2:W3.cell? (O w.heap.size 2)=some (J 0):=m.z 2
  have z3:W3.cell? (O w.heap.size 3)=some (J 0):=m.z 3;have z4:W3.cell? (O w.heap.size 4)=some (qZ ⟨#[]⟩):=m.z 4;have zf:=BN m.res;have o:=hid (m.fin [J n1,J n2,J 0,J 0,qZ n3]);go_wp2;refine Bt (v:=IV ⟨n1,n2,0,0,n3⟩) ?_ rfl ⟨⟨n1,n2,0,0,n3⟩,s3,rfl,i,p.out _ _ j,o.out.1,o.out.2⟩;simp[results,Tryz.results247,go_sem,z0,z1,z2,z3,z4]
 have n:(n1 == 14)=false:=by simpa using h14
 have p:Hid (RdR GS st ⟨n1,n2,0,0,⟨#[]⟩⟩ s2):=xvd g f (by rw[if_neg h14];exact⟨rfl,rfl⟩);clear h14;have d1:W2.cell? (O (w.heap.size+1) 1)=some (J n2):=m.c 1;have d2:W2.cell? (O (w.heap.size+1) 2)=some (J 0):=m.c 2;have d3:W2.cell? (O (w.heap.size+1) 3)=some (J 0):=m.c 3;have d4:W2.cell? (O (w.heap.size+1) 4)=some (qZ ⟨#[]⟩):=m.c 4;have z0:W2.cell? (O w.heap.size 0)=some (J 0):=m.z 0;have z1:W2.cell? (O w.heap.size 1)=some (J 0):=m.z 1;have z2:W2.cell? (O w.heap.size 2)=some (J 0):=m.z 2;have z3:W2.cell? (O w.heap.size 3)=some (J 0):=m.z 3;have z4:W2.cell? (O w.heap.size 4)=some (qZ ⟨#[]⟩):=m.z 4;have zf:=BN m.res;have o:=hid (m.fin [J n1,J n2,J 0,J 0,qZ ⟨#[]⟩]);go_wp2;refine Bt (v:=IV ⟨n1,n2,0,0,⟨#[]⟩⟩) ?_ rfl ⟨⟨n1,n2,0,0,⟨#[]⟩⟩,s2,rfl,(show (ByteArray.mk #[]).size<=140737488351232 by decide),p.out,o.out.1,o.out.2⟩;simp[results,Tryz.results247,go_sem,z0,z1,z2,z3,z4]
theorem xvx {br:Nat}{w:qW}{st:Option (List UInt8)}(d:Nat)(T:d<=1000)(h:RdS br w st):Calls Tryz.prog 246 #[qP br,J (d:Int),.func (.func 247) #[qP br] #[]] w λe w'=>∃(xs:List QI) (g:Nat) (m:Option (List UInt8)),e=.returned (qG g xs.length xs.length)/\IsRow KT 5 48 (λb=>w.heap.size<=b) w' (qG g xs.length xs.length) xs/\RdR (DM GS d) st xs m/\RdS br w' m/\RdK br w w':=by
 have H:=h.lt;go_enter Tryz.func246,Tryz.ntmps246;go_wp2_with (go_at_call 209;refine (Pm d T h).mono ?_;rintro e w1 ⟨n,s,rfl,u,hn,i,k⟩;refine Hid.out ?_);refine Lib.hid ?_;have K:=xov n (by omega);have V:=k.bel.size;have D:RowSt KT 5 69 w.heap.size (w1.alloc (.cells (madeCells #[J 0,J 0,J 0,J 0,qZ ⟨#[]⟩] (n*5)) 69)) w1.heap.size n []:=RowSt.start _ _ _ (size_madeCells _ _);have z:=i.later (Bg w1 (.cells (madeCells #[J 0,J 0,J 0,J 0,qZ ⟨#[]⟩] (n*5)) 69));have C:=k.trans (.of_below (Nat.le_of_lt i.lt) (Bg w1 (.cells (madeCells #[J 0,J 0,J 0,J 0,qZ ⟨#[]⟩] (n*5)) 69)));clear i k;go_wp2_with (fail);generalize (w1.alloc (.cells (madeCells #[J 0,J 0,J 0,J 0,qZ ⟨#[]⟩] (n*5)) 69))=W1 at *;generalize w1.heap.size=B at *
 go_loopg [15] n (λg c wr=>∃(ys:List QI) (f:Option (List UInt8)),ys.length+g=n/\c=J (ys.length:Int)/\RowSt KT 5 69 w.heap.size wr B n ys/\RdR (EP GS ys.length) s ys f/\RdS br wr f/\RdK br w wr)
 case atStart=>exact⟨[],s,by simp,rfl,D,Qg _,z,C⟩
 case round=>
  clear D z C K;obtain⟨ys,f,N,rfl,G,j,L,F⟩:=hrel;by_cases hj:ys.length<n
  ·have Q:(ys.length:Int)<(n:Int):=by omega
   have S:(0:Int)<=(ys.length:Int):=by omega
   have Z:B<wr.heap.size:=by obtain⟨⟨c,W,-⟩,-⟩:=id G;exact By W
   go_wp2_with (go_at_call 247;refine (xvS L).mono ?_;rintro e w2 ⟨x,v,rfl,t,r,p,l⟩;refine Hid.out ?_);refine Lib.hid ?_;have y:=G.keep BR l H (by omega);have U:=F.bel.size;obtain⟨⟨cur,k1,k2⟩,k3⟩:=id y;have f1:∀o,w2.frozen? (O B o)=false:=BN k1;have a0:ys.length*5+5<=n*5:=by omega
   obtain⟨q0,e0⟩:∃q,w2.cell? (O B (ys.length*5))=some q:=⟨_,by rw[Bn k1];exact Array.getElem?_eq_getElem (by omega)⟩
   obtain⟨q1,e1⟩:∃q,w2.cell? (O B (ys.length*5+1))=some q:=⟨_,by rw[Bn k1];exact Array.getElem?_eq_getElem (by omega)⟩
   obtain⟨q2,e2⟩:∃q,w2.cell? (O B (ys.length*5+2))=some q:=⟨_,by rw[Bn k1];exact Array.getElem?_eq_getElem (by omega)⟩
   obtain⟨q3,e3⟩:∃q,w2.cell? (O B (ys.length*5+3))=some q:=⟨_,by rw[Bn k1];exact Array.getElem?_eq_getElem (by omega)⟩
   obtain⟨q4,e4⟩:∃q,w2.cell? (O B (ys.length*5+4))=some q:=⟨_,by rw[Bn k1];exact Array.getElem?_eq_getElem (by omega)⟩
   have X:=hid (RdS.setsHi (show br<B by omega) [J x.op,J x.a,J x.b,J x.c,qZ x.name] (ys.length*5) _ p);have Y:=hid (RdK.setsHi (show w.heap.size<=B by omega) (show br<=B by omega) [J x.op,J x.a,J x.b,J x.c,qZ x.name] (ys.length*5) _ (F.trans l));have R:=hid (y.step BR hj (vs:=[J x.op,J x.a,J x.b,J x.c,qZ x.name]) rfl ⟨rfl,rfl,rfl,rfl,rfl,t⟩);have HQ:=hid (QR j r);have M:=hid N;clear y p l j r L F k3 G N;go_wp2;go_roundg (gk-1)
   case measure=>have:=M.out;omega
   case rel=>exact⟨ys++[x],v,by have:=M.out;simp;omega,by simp;try go_num,R.out,by rw[List.length_append];exact HQ.out,X.out,Y.out⟩
  obtain rfl:n=ys.length:=by omega
  go_wp2;go_ret;exact⟨ys,B,f,rfl,G.row BR rfl (by omega) (by omega) (by omega),PB u j,L,F⟩
theorem xvz {br:Nat}{w:qW}{st:Option (List UInt8)}(h:RdS br w st):Calls Tryz.prog 211 #[qP br] w λe w'=>∃(x:QM) (kv:Value) (g:Option (List UInt8)),e=.returned (MV x kv)/\x.name.size<=140737488351232/\Cm (λb=>w.heap.size<=b) w' kv x.code/\RdR Kj st x g/\RdS br w' g/\RdK br w w':=by
 have r:=NY h #[qZ ⟨#[]⟩,J 0,J 0,J 0,qN] 51;have C:=h.lt;clear h;go_enter Tryz.func211,Tryz.ntmps211;go_upto_region 2 with (fail);generalize ((w.alloc (qC #[qZ ⟨#[]⟩,J 0,J 0,J 0,qN] 51)).alloc (qC #[qZ ⟨#[]⟩,J 0,J 0,J 0,qN] 51))=W0 at *;go_wp2_with (go_at_call 207;refine (xum r.S).mono ?_;rintro e w1 ⟨n1,s1,rfl,m,-,n,d,f⟩;refine Hid.out ?_);refine Lib.hid ?_;replace r:=r.call d f;have c0:w1.cell? (O (w.heap.size+1) 0)=some (qZ ⟨#[]⟩):=r.c 0;have cf:=BN r.box;replace r:=r.set 0 (qZ n1);clear d f;go_upto_region 3 with (fail);clear c0 cf;generalize (w1.setCell (O (w.heap.size+1) 0) (qZ n1))=W1 at *;go_wp2_with (go_at_call 162;refine (Kg r.S).mono ?_;rintro e w2 ⟨n2,s2,rfl,i,o,d,f⟩;refine Hid.out ?_);refine Lib.hid ?_;replace r:=r.call d f;have c0:w2.cell? (O (w.heap.size+1) 1)=some (J 0):=r.c 1;have cf:=BN r.box;replace r:=r.set 1 (J n2);clear d f;go_upto_region 4 with (fail);clear c0 cf;generalize (w2.setCell (O (w.heap.size+1) 1) (J n2))=W2 at *;go_wp2_with (go_at_call 162;refine (Kg r.S).mono ?_;rintro e w3 ⟨n3,s3,rfl,l,p,d,f⟩;refine Hid.out ?_)
 refine Lib.hid ?_;replace r:=r.call d f;have c0:w3.cell? (O (w.heap.size+1) 2)=some (J 0):=r.c 2;have cf:=BN r.box;replace r:=r.set 2 (J n3);clear d f;go_upto_region 5 with (fail);clear c0 cf;generalize (w3.setCell (O (w.heap.size+1) 2) (J n3))=W3 at *;go_wp2_with (go_at_call 162;refine (Kg r.S).mono ?_;rintro e w4 ⟨n4,s4,rfl,k,q,d,f⟩;refine Hid.out ?_);refine Lib.hid ?_;replace r:=r.call d f;have c0:w4.cell? (O (w.heap.size+1) 3)=some (J 0):=r.c 3;have cf:=BN r.box;replace r:=r.set 3 (J n4);clear d f;go_upto_region 6 with (fail);clear c0 cf;generalize (w4.setCell (O (w.heap.size+1) 3) (J n4))=W4 at *;have u:=By r.box;go_wp2_with (go_at_call 246;refine (xvx 60 (by omega) r.S).mono ?_;rintro e w5 ⟨n5,g5,s5,rfl,s,j,d,f⟩;refine Hid.out ?_);refine Lib.hid ?_;replace s:IsRow _ _ _ (λb=>w.heap.size+2<=b) _ _ _:=s.mono BR λb t=>by omega
 clear u;replace r:=r.call d f;have c0:w5.cell? (O (w.heap.size+1) 4)=some (qN):=r.c 4;have cf:=BN r.box;replace r:=r.set 4 (qG g5 n5.length n5.length);clear d f;replace s:=s.keep BR (Keeps.of_setCell (a:=(O (w.heap.size+1) 4)) (by simp) (qG g5 n5.length n5.length)) λb t=>t;go_upto_region 7 with (fail);clear c0 cf;generalize (w5.setCell (O (w.heap.size+1) 4) (qG g5 n5.length n5.length))=W5 at *;have d0:W5.cell? (O (w.heap.size+1) 0)=some (qZ n1):=r.c 0;have d1:W5.cell? (O (w.heap.size+1) 1)=some (J n2):=r.c 1;have d2:W5.cell? (O (w.heap.size+1) 2)=some (J n3):=r.c 2;have d3:W5.cell? (O (w.heap.size+1) 3)=some (J n4):=r.c 3;have d4:W5.cell? (O (w.heap.size+1) 4)=some (qG g5 n5.length n5.length):=r.c 4;have z0:W5.cell? (O w.heap.size 0)=some (qZ ⟨#[]⟩):=r.z 0;have z1:W5.cell? (O w.heap.size 1)=some (J 0):=r.z 1
 have z2:W5.cell? (O w.heap.size 2)=some (J 0):=r.z 2;have z3:W5.cell? (O w.heap.size 3)=some (J 0):=r.z 3;have z4:W5.cell? (O w.heap.size 4)=some (qN):=r.z 4;have zf:=BN r.res;have B:=hid (r.fin [qZ n1,J n2,J n3,J n4,qG g5 n5.length n5.length]);have y:=hid ((s.keep BR (Keeps.of_block (w':=W5.setCells w.heap.size 0 [qZ n1,J n2,J n3,J n4,qG g5 n5.length n5.length]) λb t D=>Er (by omega) _ _ _) λb t=>t).mono (Q:=λb=>w.heap.size<=b) BR λb t=>by omega);clear s;go_wp2;refine Bt (v:=MV ⟨n1,n2,n3,n4,n5⟩ (qG g5 n5.length n5.length)) ?_ rfl ⟨⟨n1,n2,n3,n4,n5⟩,_,s5,rfl,n,y.out,xwR m i l k j,B.out.1,B.out.2⟩;simp[results,Tryz.results211,go_sem,z0,z1,z2,z3,z4]
theorem xvW {br:Nat}{w:qW}{st:Option (List UInt8)}(a:Nat)(V:a<=1000)(h:RdS br w st):Calls Tryz.prog 210 #[qP br,J (a:Int),.func (.func 211) #[qP br] #[]] w λe w'=>∃(xs:List QM) (g:Nat) (p:Option (List UInt8)),e=.returned (qG g xs.length xs.length)/\IsRow Fk 5 64 (λb=>w.heap.size<=b) w' (qG g xs.length xs.length) xs/\RdR (DM Kj a) st xs p/\RdS br w' p/\RdK br w w':=by
 have L:=h.lt;go_enter Tryz.func210,Tryz.ntmps210;go_wp2_with (go_at_call 209;refine (Pm a V h).mono ?_;rintro e w1 ⟨n,t,rfl,v,hn,j,l⟩;refine Hid.out ?_);refine Lib.hid ?_;have M:=xmm n (by omega);have X:=l.bel.size;have F:RowSt Fk 5 51 w.heap.size (w1.alloc (.cells (madeCells #[qZ ⟨#[]⟩,J 0,J 0,J 0,qN] (n*5)) 51)) w1.heap.size n []:=RowSt.start _ _ _ (size_madeCells _ _);have C:=j.later (Bg w1 (.cells (madeCells #[qZ ⟨#[]⟩,J 0,J 0,J 0,qN] (n*5)) 51));have D:=l.trans (.of_below (Nat.le_of_lt j.lt) (Bg w1 (.cells (madeCells #[qZ ⟨#[]⟩,J 0,J 0,J 0,qN] (n*5)) 51)));clear j l;go_wp2_with (fail);generalize (w1.alloc (.cells (madeCells #[qZ ⟨#[]⟩,J 0,J 0,J 0,qN] (n*5)) 51))=W1 at *;generalize w1.heap.size=B at *
 go_loopg [15] n (λg c wr=>∃(ys:List QM) (d:Option (List UInt8)),ys.length+g=n/\c=J (ys.length:Int)/\RowSt Fk 5 51 w.heap.size wr B n ys/\RdR (EP Kj ys.length) t ys d/\RdS br wr d/\RdK br w wr)
 case atStart=>exact⟨[],t,by simp,rfl,F,Qg _,C,D⟩
 case round=>
  clear F C D M;obtain⟨ys,d,R,rfl,K,k,N,G⟩:=hrel;by_cases hj:ys.length<n
  ·have S:(ys.length:Int)<(n:Int):=by omega
   have U:(0:Int)<=(ys.length:Int):=by omega
   have a0:B<wr.heap.size:=by obtain⟨⟨c,Y,-⟩,-⟩:=id K;exact By Y
   go_wp2_with (go_at_call 211;refine (xvz N).mono ?_;rintro e w2 ⟨x,sv,y,rfl,u,H,s,r,m⟩;refine Hid.out ?_);refine Lib.hid ?_;have z:=K.keep xbj m L (by omega);have W:=G.bel.size;obtain⟨⟨cur,k1,k2⟩,k3⟩:=id z;have f1:∀o,w2.frozen? (O B o)=false:=BN k1;have a1:ys.length*5+5<=n*5:=by omega
   obtain⟨q0,e0⟩:∃q,w2.cell? (O B (ys.length*5))=some q:=⟨_,by rw[Bn k1];exact Array.getElem?_eq_getElem (by omega)⟩
   obtain⟨q1,e1⟩:∃q,w2.cell? (O B (ys.length*5+1))=some q:=⟨_,by rw[Bn k1];exact Array.getElem?_eq_getElem (by omega)⟩
   obtain⟨q2,e2⟩:∃q,w2.cell? (O B (ys.length*5+2))=some q:=⟨_,by rw[Bn k1];exact Array.getElem?_eq_getElem (by omega)⟩
   obtain⟨q3,e3⟩:∃q,w2.cell? (O B (ys.length*5+3))=some q:=⟨_,by rw[Bn k1];exact Array.getElem?_eq_getElem (by omega)⟩
   obtain⟨q4,e4⟩:∃q,w2.cell? (O B (ys.length*5+4))=some q:=⟨_,by rw[Bn k1];exact Array.getElem?_eq_getElem (by omega)⟩
   replace H:Cm (λb=>w.heap.size<=b/\b≠B) w2 sv x.code:=H.mono BR λb hb=>by omega
   obtain⟨f,i,rfl⟩:=H.get;have Z:=hid (RdS.setsHi (show br<B by omega) [qZ x.name,J x.args,J x.temps,J x.prim,qS f x.code.length i] (ys.length*5) _ r);have HK:=hid (RdK.setsHi (show w.heap.size<=B by omega) (show br<=B by omega) [qZ x.name,J x.args,J x.temps,J x.prim,qS f x.code.length i] (ys.length*5) _ (G.trans m));have T:=hid (z.step xbj hj (vs:=[qZ x.name,J x.args,J x.temps,J x.prim,qS f x.code.length i]) rfl ⟨rfl,rfl,rfl,rfl,u,_,rfl,H⟩);have HQ:=hid (QR k s);have Q:=hid R;clear z r m k s N G k3 K R;go_wp2;go_roundg (gk-1)
   case measure=>have:=Q.out;omega
   case rel=>exact⟨ys++[x],y,by have:=Q.out;simp;omega,by simp;try go_num,T.out,by rw[List.length_append];exact HQ.out,Z.out,HK.out⟩
  obtain rfl:n=ys.length:=by omega
  go_wp2;go_ret;exact⟨ys,B,d,rfl,K.row xbj rfl (by omega) (by omega) (by omega),PB v k,N,G⟩
theorem xv7 {br:Nat}{w:qW}{st:Option (List UInt8)}(h:RdS br w st):Calls Tryz.prog 164 #[qP br] w λe w'=>∃(x:QC) (kv:Value) (g:Option (List UInt8)),e=.returned (CV x kv)/\x.name.size<=140737488351232/\EC (λb=>w.heap.size<=b) w' kv x.mz/\RdR Lk st x g/\RdS br w' g/\RdK br w w':=by
 have p:=NY h #[qZ ⟨#[]⟩,J 0,J 0,qN] 80;have y:=h.lt;clear h;go_enter Tryz.func164,Tryz.ntmps164;go_upto_region 2 with (fail);generalize ((w.alloc (qC #[qZ ⟨#[]⟩,J 0,J 0,qN] 80)).alloc (qC #[qZ ⟨#[]⟩,J 0,J 0,qN] 80))=W0 at *;go_wp2_with (go_at_call 207;refine (xum p.S).mono ?_;rintro e w1 ⟨n1,s1,rfl,l,-,m,d,f⟩;refine Hid.out ?_);refine Lib.hid ?_;replace p:=p.call d f;have c0:w1.cell? (O (w.heap.size+1) 0)=some (qZ ⟨#[]⟩):=p.c 0;have cf:=BN p.box;replace p:=p.set 0 (qZ n1);clear d f;go_upto_region 3 with (fail);clear c0 cf;generalize (w1.setCell (O (w.heap.size+1) 0) (qZ n1))=W1 at *;go_wp2_with (go_at_call 162;refine (Kg p.S).mono ?_;rintro e w2 ⟨n2,s2,rfl,i,n,d,f⟩;refine Hid.out ?_);refine Lib.hid ?_;replace p:=p.call d f;have c0:w2.cell? (O (w.heap.size+1) 1)=some (J 0):=p.c 1;have cf:=BN p.box;replace p:=p.set 1 (J n2);clear d f;go_upto_region 4 with (fail);clear c0 cf;generalize (w2.setCell (O (w.heap.size+1) 1) (J n2))=W2 at *;go_wp2_with (go_at_call 162;refine (Kg p.S).mono ?_;rintro e w3 ⟨n3,s3,rfl,k,o,d,f⟩;refine Hid.out ?_)
 refine Lib.hid ?_;replace p:=p.call d f;have c0:w3.cell? (O (w.heap.size+1) 2)=some (J 0):=p.c 2;have cf:=BN p.box;replace p:=p.set 2 (J n3);clear d f;go_upto_region 5 with (fail);clear c0 cf;generalize (w3.setCell (O (w.heap.size+1) 2) (J n3))=W3 at *;have s:=By p.box;go_wp2_with (go_at_call 210;refine (xvW 8 (by omega) p.S).mono ?_;rintro e w4 ⟨n4,g4,s4,rfl,q,j,d,f⟩;refine Hid.out ?_);refine Lib.hid ?_;replace q:IsRow _ _ _ (λb=>w.heap.size+2<=b) _ _ _:=q.mono xbj λb r=>by omega
 clear s;replace p:=p.call d f;have c0:w4.cell? (O (w.heap.size+1) 3)=some (qN):=p.c 3;have cf:=BN p.box;replace p:=p.set 3 (qG g4 n4.length n4.length);clear d f;replace q:=q.keep xbj (Keeps.of_setCell (a:=(O (w.heap.size+1) 3)) (by simp) (qG g4 n4.length n4.length)) λb r=>r;go_upto_region 6 with (fail);clear c0 cf;generalize (w4.setCell (O (w.heap.size+1) 3) (qG g4 n4.length n4.length))=W4 at *;have d0:W4.cell? (O (w.heap.size+1) 0)=some (qZ n1):=p.c 0;have d1:W4.cell? (O (w.heap.size+1) 1)=some (J n2):=p.c 1;have d2:W4.cell? (O (w.heap.size+1) 2)=some (J n3):=p.c 2;have d3:W4.cell? (O (w.heap.size+1) 3)=some (qG g4 n4.length n4.length):=p.c 3;have z0:W4.cell? (O w.heap.size 0)=some (qZ ⟨#[]⟩):=p.z 0;have z1:W4.cell? (O w.heap.size 1)=some (J 0):=p.z 1;have z2:W4.cell? (O w.heap.size 2)=some (J 0):=p.z 2;have z3:W4.cell? (O w.heap.size 3)=some (qN):=p.z 3;have zf:=BN p.res;have u:=hid (p.fin [qZ n1,J n2,J n3,qG g4 n4.length n4.length]);have t:=hid ((q.keep xbj (Keeps.of_block (w':=W4.setCells w.heap.size 0 [qZ n1,J n2,J n3,qG g4 n4.length n4.length]) λb r B=>Er (by omega) _ _ _) λb r=>r).mono (Q:=λb=>w.heap.size<=b) xbj λb r=>by omega)
 clear q;go_wp2;refine Bt (v:=CV ⟨n1,n2,n3,n4⟩ (qG g4 n4.length n4.length)) ?_ rfl ⟨⟨n1,n2,n3,n4⟩,_,s4,rfl,m,t.out,xwz l i k j,u.out.1,u.out.2⟩;simp[results,Tryz.results164,go_sem,z0,z1,z2,z3]
theorem xvm {br:Nat}{w:qW}{st:Option (List UInt8)}(a:Nat)(V:a<=1000)(h:RdS br w st):Calls Tryz.prog 163 #[qP br,J (a:Int),.func (.func 164) #[qP br] #[]] w λe w'=>∃(xs:List QC) (g:Nat) (p:Option (List UInt8)),e=.returned (qG g xs.length xs.length)/\IsRow Kd 4 56 (λb=>w.heap.size<=b) w' (qG g xs.length xs.length) xs/\RdR (DM Lk a) st xs p/\RdS br w' p/\RdK br w w':=by
 have L:=h.lt;go_enter Tryz.func163,Tryz.ntmps163;go_wp2_with (go_at_call 209;refine (Pm a V h).mono ?_;rintro e w1 ⟨n,t,rfl,v,hn,j,l⟩;refine Hid.out ?_);refine Lib.hid ?_;have M:=xjj n (by omega);have X:=l.bel.size;have F:RowSt Kd 4 80 w.heap.size (w1.alloc (.cells (madeCells #[qZ ⟨#[]⟩,J 0,J 0,qN] (n*4)) 80)) w1.heap.size n []:=RowSt.start _ _ _ (size_madeCells _ _);have C:=j.later (Bg w1 (.cells (madeCells #[qZ ⟨#[]⟩,J 0,J 0,qN] (n*4)) 80));have D:=l.trans (.of_below (Nat.le_of_lt j.lt) (Bg w1 (.cells (madeCells #[qZ ⟨#[]⟩,J 0,J 0,qN] (n*4)) 80)));clear j l;go_wp2_with (fail);generalize (w1.alloc (.cells (madeCells #[qZ ⟨#[]⟩,J 0,J 0,qN] (n*4)) 80))=W1 at *;generalize w1.heap.size=B at *
 go_loopg [15] n (λg c wr=>∃(ys:List QC) (d:Option (List UInt8)),ys.length+g=n/\c=J (ys.length:Int)/\RowSt Kd 4 80 w.heap.size wr B n ys/\RdR (EP Lk ys.length) t ys d/\RdS br wr d/\RdK br w wr)
 case atStart=>exact⟨[],t,by simp,rfl,F,Qg _,C,D⟩
 case round=>
  clear F C D M;obtain⟨ys,d,R,rfl,K,k,N,G⟩:=hrel;by_cases hj:ys.length<n
  ·have S:(ys.length:Int)<(n:Int):=by omega
   have U:(0:Int)<=(ys.length:Int):=by omega
   have a0:B<wr.heap.size:=by obtain⟨⟨c,Y,-⟩,-⟩:=id K;exact By Y
   go_wp2_with (go_at_call 164;refine (xv7 N).mono ?_;rintro e w2 ⟨x,sv,y,rfl,u,H,s,r,m⟩;refine Hid.out ?_);refine Lib.hid ?_;have z:=K.keep Bw m L (by omega);have W:=G.bel.size;obtain⟨⟨cur,k1,k2⟩,k3⟩:=id z;have f1:∀o,w2.frozen? (O B o)=false:=BN k1;have a1:ys.length*4+4<=n*4:=by omega
   obtain⟨q0,e0⟩:∃q,w2.cell? (O B (ys.length*4))=some q:=⟨_,by rw[Bn k1];exact Array.getElem?_eq_getElem (by omega)⟩
   obtain⟨q1,e1⟩:∃q,w2.cell? (O B (ys.length*4+1))=some q:=⟨_,by rw[Bn k1];exact Array.getElem?_eq_getElem (by omega)⟩
   obtain⟨q2,e2⟩:∃q,w2.cell? (O B (ys.length*4+2))=some q:=⟨_,by rw[Bn k1];exact Array.getElem?_eq_getElem (by omega)⟩
   obtain⟨q3,e3⟩:∃q,w2.cell? (O B (ys.length*4+3))=some q:=⟨_,by rw[Bn k1];exact Array.getElem?_eq_getElem (by omega)⟩
   replace H:EC (λb=>w.heap.size<=b/\b≠B) w2 sv x.mz:=H.mono xbj λb hb=>by omega
   obtain⟨f,i,rfl⟩:=H.get;have Z:=hid (RdS.setsHi (show br<B by omega) [qZ x.name,J x.super,J x.slots,qS f x.mz.length i] (ys.length*4) _ r);have HK:=hid (RdK.setsHi (show w.heap.size<=B by omega) (show br<=B by omega) [qZ x.name,J x.super,J x.slots,qS f x.mz.length i] (ys.length*4) _ (G.trans m));have T:=hid (z.step Bw hj (vs:=[qZ x.name,J x.super,J x.slots,qS f x.mz.length i]) rfl ⟨rfl,rfl,rfl,u,_,rfl,H⟩);have HQ:=hid (QR k s);have Q:=hid R;clear z r m k s N G k3 K R;go_wp2;go_roundg (gk-1)
   case measure=>have:=Q.out;omega
   case rel=>exact⟨ys++[x],y,by have:=Q.out;simp;omega,by simp;try go_num,T.out,by rw[List.length_append];exact HQ.out,Z.out,HK.out⟩
  obtain rfl:n=ys.length:=by omega
  go_wp2;go_ret;exact⟨ys,B,d,rfl,K.row Bw rfl (by omega) (by omega) (by omega),PB v k,N,G⟩
theorem xv4 {br:Nat}{w:qW}{st:Option (List UInt8)}(h:RdS br w st):Calls Tryz.prog 117 #[qP br] w λe w'=>∃(X:QW) (cv hv:Value) (g:Option (List UInt8)),e=.returned (WV cv hv X.ez)/\BK (λb=>w.heap.size<=b) w' cv X.cz/\BP (λb=>w.heap.size<=b) w' hv X.heap/\RdR Ms st X g/\RdS br w' g/\RdK br w w':=by
 have m:=NY h #[qN,qN,J 0] 26;have y:=h.lt;clear h;go_enter Tryz.func117,Tryz.ntmps117;go_upto_region 2 with (fail);generalize ((w.alloc (qO)).alloc (qO))=W0 at *;go_wp2_with (go_at_call 162;refine (Kg m.S).mono ?_;rintro e w1 ⟨n1,s1,rfl,k,l,f,d⟩;refine Hid.out ?_);refine Lib.hid ?_;replace m:=m.call f d;have c0:w1.cell? (O (w.heap.size+1) 2)=some (J 0):=m.c 2;have cf:=BN m.box;replace m:=m.set 2 (J n1);clear f d;go_upto_region 3 with (fail);clear c0 cf;generalize (w1.setCell (O (w.heap.size+1) 2) (J n1))=W1 at *;have q:=By m.box;go_wp2_with (go_at_call 163;refine (xvm 12 (by omega) m.S).mono ?_;rintro e w2 ⟨n2,g2,s2,rfl,n,i,f,d⟩;refine Hid.out ?_);refine Lib.hid ?_;replace n:IsRow _ _ _ (λb=>w.heap.size+2<=b) _ _ _:=n.mono Bw λb o=>by omega
 clear q;replace m:=m.call f d;have c0:w2.cell? (O (w.heap.size+1) 0)=some (qN):=m.c 0;have cf:=BN m.box;replace m:=m.set 0 (qG g2 n2.length n2.length);clear f d;replace n:=n.keep Bw (Keeps.of_setCell (a:=(O (w.heap.size+1) 0)) (by simp) (qG g2 n2.length n2.length)) λb o=>o;go_upto_region 4 with (fail);clear c0 cf;generalize (w2.setCell (O (w.heap.size+1) 0) (qG g2 n2.length n2.length))=W2 at *;have q:=By m.box;go_wp2_with (go_at_call 165;refine (xwg 60 (by omega) m.S).mono ?_;rintro e w3 ⟨n3,g3,s3,rfl,p,j,f,d⟩;refine Hid.out ?_);refine Lib.hid ?_;replace n:=n.keep Bw (Keeps.of_block λb o s=>d.oth b s (by omega)) λb o=>o;replace p:IsRow _ _ _ (λb=>w.heap.size+2<=b) _ _ _:=p.mono BB λb o=>by omega
 clear q;replace m:=m.call f d;have c0:w3.cell? (O (w.heap.size+1) 1)=some (qN):=m.c 1;have cf:=BN m.box;replace m:=m.set 1 (qG g3 n3.length n3.length);clear f d;replace n:=n.keep Bw (Keeps.of_setCell (a:=(O (w.heap.size+1) 1)) (by simp) (qG g3 n3.length n3.length)) λb o=>o;replace p:=p.keep BB (Keeps.of_setCell (a:=(O (w.heap.size+1) 1)) (by simp) (qG g3 n3.length n3.length)) λb o=>o;go_upto_region 5 with (fail);clear c0 cf;generalize (w3.setCell (O (w.heap.size+1) 1) (qG g3 n3.length n3.length))=W3 at *;have d0:W3.cell? (O (w.heap.size+1) 0)=some (qG g2 n2.length n2.length):=m.c 0;have d1:W3.cell? (O (w.heap.size+1) 1)=some (qG g3 n3.length n3.length):=m.c 1;have d2:W3.cell? (O (w.heap.size+1) 2)=some (J n1):=m.c 2;have z0:W3.cell? (O w.heap.size 0)=some (qN):=m.z 0;have z1:W3.cell? (O w.heap.size 1)=some (qN):=m.z 1;have z2:W3.cell? (O w.heap.size 2)=some (J 0):=m.z 2;have zf:=BN m.res
 have u:=hid (m.fin [qG g2 n2.length n2.length,qG g3 n3.length n3.length,J n1]);have t:=hid ((n.keep Bw (Keeps.of_block (w':=W3.setCells w.heap.size 0 [qG g2 n2.length n2.length,qG g3 n3.length n3.length,J n1]) λb o s=>Er (by omega) _ _ _) λb o=>o).mono (Q:=λb=>w.heap.size<=b) Bw λb o=>by omega);clear n;have r:=hid ((p.keep BB (Keeps.of_block (w':=W3.setCells w.heap.size 0 [qG g2 n2.length n2.length,qG g3 n3.length n3.length,J n1]) λb o s=>Er (by omega) _ _ _) λb o=>o).mono (Q:=λb=>w.heap.size<=b) BB λb o=>by omega);clear p;go_wp2;refine Bt (v:=WV (qG g2 n2.length n2.length) (qG g3 n3.length n3.length) n1) ?_ rfl ⟨⟨n2,n3,n1⟩,_,_,s3,rfl,t.out,r.out,xwm k i j,u.out.1,u.out.2⟩;simp[results,Tryz.results117,go_sem,z0,z1,z2]
end Go.Proofs.YtbafokihegegiaaGreatDoor
