/- A part. -/
import Derived.Test.YtapbeiccodnniaaGreatM13
import Derived.Test.YtapbeiccodnniaaGreatM40
namespace Go.Proofs.YtapbeiccodnniaaGreat
open Go.ChangeShapes Go.WideShapes Go.ChangeAt Go.RowKit
set_option linter.unusedSimpArgs false
set_option linter.unusedVariables false
set_option maxHeartbeats 8000000
set_option maxRecDepth 8000
def xpw (X:QW)(s:QV)(name:ByteArray)(args:List QV)(fuel:Int):List Ask:=
 if xap X s name args fuel≠0 then [] else (xa1 (xcQ X fuel) 20 ⟨X.heap,0,0,[]⟩ (xaw X.cz (xar X.heap s) name).1 (xaw X.cz (xar X.heap s) name).2 s args).1.st
theorem xrn (X:QW)(fuel:Int):ER (fun (q:RSt) (l:List Ask)=>q=l.map fun a=>(a.1,a.2.1)) (fun _ _=>True) (xcK X fuel) (xcQ X fuel) where
 cz:=rfl
 fuel:=rfl
 quick:=rfl
 look:=fun q l s c nm h _=>⟨rfl,by
  show q++[(s,c)]=(l++[(s,c,nm)]).map fun a=>(a.1,a.2.1)
  rw[h,List.map_append]
  rfl⟩
 plain:=fun _ _ _ _ _ _ _ _=>trivial
 fast:=fun _ _ _ _ _ _ _ _ _=>trivial
theorem xqu (X:QW)(s:QV)(name:ByteArray)(args:List QV)(fuel:Int):xf5 X s name args fuel=(xpw X s name args fuel).map fun a=>(a.1,a.2.1):=by
 unfold xf5 xpw
 split
 ·rfl
 ·exact (xfi (xrn X fuel) 20 ⟨X.heap,0,0,[]⟩ ⟨X.heap,0,0,[]⟩ (xaw X.cz (xar X.heap s) name).1 (xaw X.cz (xar X.heap s) name).2 s args ⟨rfl,rfl,rfl,rfl⟩).1.st
theorem xqi {X:QW}(hX:xaJ X=0){l:List QE}{t:List QT}(hT:TrueS X l)(v:QV)(name:ByteArray)(args:List QV)(fuel:Int) :
  xdh (xaL X fuel) X ⟨l,t,0,0⟩ v name args fuel=(xcI X v name args fuel,xcB X ⟨l,t,0,0⟩ (xpw X v name args fuel)):=by
 rw[← xjv]
 by_cases hw:xap X v name args fuel≠0
 ·unfold xdh xpw;rw[if_pos hw,if_pos hw,if_pos hw]
  rfl
 ·have hr:=xf4 hX fuel 20 (xaw X.cz (xar X.heap v) name).1 (xaw X.cz (xar X.heap v) name).2 v args ⟨l,t,0,0⟩ hT
  have e1:xop X (xdf (xaL X fuel) X ⟨l,t,0,0⟩ v name args)=xop X (xdf (xcJ X fuel) X () v name args):=by
   unfold xop xdf;rw[hr.heap,hr.sz_,hr.res]
  have e2:(xdf (xaL X fuel) X ⟨l,t,0,0⟩ v name args).1.st=xcB X ⟨l,t,0,0⟩ (xa1 (xcQ X fuel) 20 ⟨X.heap,0,0,[]⟩ (xaw X.cz (xar X.heap v) name).1 (xaw X.cz (xar X.heap v) name).2 v args).1.st:=hr.st;unfold xdh xpw;rw[if_neg hw,if_neg hw,if_neg hw];simp only;rw[e1,e2]
theorem xqJ {X:QW}(s:QV)(name:ByteArray)(args:List QV)(fuel:Int):∀ a∈xpw X s name args fuel,xcW X.cz a.1 a.2.2:=by
 unfold xpw
 split
 ·intro a ha;cases ha
 ·obtain⟨⟨-,-,-,a1⟩,-⟩:=xfi (xm2 X fuel) 20 ⟨X.heap,0,0,()⟩ ⟨X.heap,0,0,[]⟩ (xaw X.cz (xar X.heap s) name).1 (xaw X.cz (xar X.heap s) name).2 s args ⟨rfl,rfl,rfl,fun a ha=>by cases ha⟩
  exact a1
theorem xqY {X:QW}(s:QV)(name:ByteArray)(args:List QV)(fuel:Int):(xpw X s name args fuel).length<=400:=by
 unfold xpw
 split
 ·simp
 ·rename_i hw;have hw':=xcH (Decidable.of_not_not hw);have h1:=(xjW (xnm X fuel) 20 ⟨X.heap,0,0,[]⟩ (xaw X.cz (xar X.heap s) name).1 (xaw X.cz (xar X.heap s) name).2 s args).1;have h2:=(xlf (xcQ X fuel) 20 ⟨X.heap,0,0,[]⟩ (xaw X.cz (xar X.heap s) name).1 (xaw X.cz (xar X.heap s) name).2 s args hw'.1.1).1;have h3:=hw'.1;generalize xa1 (xcQ X fuel) 20 ⟨X.heap,0,0,[]⟩ (xaw X.cz (xar X.heap s) name).1 (xaw X.cz (xar X.heap s) name).2 s args=r at *;have h4:r.1.sz_<=fuel:=h2
  by_cases h0:r.2.2=0
  ·have:=(h1.good h0).1;simp at this;omega
  ·have:=(h1.bad h0).1;simp at this;omega
theorem xqM {X:QW}{st:CSt}{q:List Ask}{j:Nat}{a:Ask}(h:q[j]?=some a):xqa X st (q.take (j+1))=xpv X (xqa X st (q.take j)) a.1 a.2.1 a.2.2:=by
 unfold xqa;rw[List.take_add_one,h]
 simp
theorem xqS {X:QW}{st:CSt}{n:Nat}(hI:InS X st.cells)(h:CFew st (n+1))(s:QS)(c:Int)(nm:ByteArray):CFew (xpv X st s c nm) n:=by
 rw[← (hI.look s c nm).1]
 exact h.look X s c nm
theorem xpQ:∀ {l:RSt} {i:Nat} {p:QS × Int},l[i]?=some p->(xcG l)[i*3]?=some (.int .i64 p.1.cls)/\(xcG l)[i*3+1]?=some (.string p.1.name)/\(xcG l)[i*3+2]?=some (.int .i64 p.1.at')
 | [],_,_,h=>by simp at h
 | p :: r,0,q,h=>by simp at h;subst h;exact⟨rfl,rfl,rfl⟩
 | p :: r,i+1,q,h=>by
  have:=xpQ (l:=r) (i:=i) (p:=q) (by simpa using h)
  rw[show (i+1)*3=i*3+3 from by omega]
  simpa [xcG] using this
theorem xpS:∀ {l:RSt} {i:Nat} {p:QS × Int},l[i]?=some p->(xcw l)[i]?=some (.int .i64 p.2)
 | [],_,_,h=>by simp at h
 | p :: r,0,q,h=>by simp at h;subst h;rfl
 | p :: r,i+1,q,h=>by
  have:=xpS (l:=r) (i:=i) (p:=q) (by simpa using h)
  simpa [xcw] using this
def xrx:Lay Ask:=fun _ _ f a=>f 0=some (.int .i64 a.1.cls)/\f 1=some (.string a.1.name)/\f 2=some (.int .i64 a.1.at')
def xrv:Lay Ask:=fun _ _ f a=>f 0=some (.int .i64 a.2.1)
theorem xqm:Good xrx 3 where
 move h hl hk hf:=⟨hf 0 (by omega) _ h.1,hf 1 (by omega) _ h.2.1,hf 2 (by omega) _ h.2.2⟩
 there h k hk:=by
  obtain⟨h0,h1,h2⟩:=h
  match k,hk with
  | 0,_=>exact⟨_,h0,rfl⟩
  | 1,_=>exact⟨_,h1,rfl⟩
  | 2,_=>exact⟨_,h2,rfl⟩
 pos:=by omega
theorem xqn:Good xrv 1 where
 move h hl hk hf:=hf 0 (by omega) _ h
 there h k hk:=by
  match k,hk with
  | 0,_=>exact⟨_,h,rfl⟩
 pos:=by omega
theorem xqC {z:Nat}{w:World}{sv ov:Value}{st:RSt}{q:List Ask}(hq:st=q.map fun a:Ask=>(a.1,a.2.1))(hs:ownsAt w 0 67 3 sv st.length (xcG st))(ho:ownsAt w 0 3 1 ov st.length (xcw st))(hsz:∀ g,sv.ownBlock=some g->g≠z)(hoz:∀ g,ov.ownBlock=some g->g≠z):IsRow xrx 3 0 (fun b=>b≠z/\b<w.heap.size) w sv q/\IsRow xrv 1 0 (fun b=>b≠z/\b<w.heap.size) w ov q:=by
 have hl:st.length=q.length:=by rw[hq,List.length_map]
 have hget:∀ (i:Nat) (a:Ask),q[i]?=some a->st[i]?=some (a.1,a.2.1):=fun i a h=>by rw[hq,List.getElem?_map,h];rfl
 rw[hl] at hs ho
 constructor
 ·obtain⟨h1,⟨rfl,h2⟩ | ⟨g,o,cap,cur,rfl,h3,h4,h5,h6,h7,h8⟩⟩:=hs
  ·have:q=[]:=List.eq_nil_of_length_eq_zero h2;subst this
   exact⟨none,0,rfl,by simp,by simp,by simp,fun i x hx=>by simp at hx⟩
  ·refine⟨_,_,rfl,h5,h6,by simp,fun i x hx=>⟨g,o,rfl,⟨hsz g rfl,xaf h4⟩,?_⟩⟩
   have hi:=xae hx
   have hcell:∀ j,j<q.length*3->w.cell? ⟨g,o+j,none⟩=(xcG st)[j]?:=fun j hj=>by
    rw[← h8,qzB h4,List.getElem?_take,if_pos hj,List.getElem?_drop]
    simp
   obtain⟨e1,e2,e3⟩:=xpQ (hget i x hx)
   exact⟨by show w.cell? ⟨g,o+i*3+0,none⟩=_;rw[Nat.add_zero,hcell _ (by omega)];exact e1,by show w.cell? ⟨g,o+i*3+1,none⟩=_;rw[Nat.add_assoc,hcell _ (by omega)];exact e2,by show w.cell? ⟨g,o+i*3+2,none⟩=_;rw[Nat.add_assoc,hcell _ (by omega)];exact e3⟩
 ·obtain⟨h1,⟨rfl,h2⟩ | ⟨g,o,cap,cur,rfl,h3,h4,h5,h6,h7,h8⟩⟩:=ho
  ·have:q=[]:=List.eq_nil_of_length_eq_zero h2;subst this
   exact⟨none,0,rfl,by simp,by simp,by simp,fun i x hx=>by simp at hx⟩
  ·refine⟨_,_,rfl,h5,h6,by simp,fun i x hx=>⟨g,o,rfl,⟨hoz g rfl,xaf h4⟩,?_⟩⟩
   have hi:=xae hx
   have hcell:∀ j,j<q.length*1->w.cell? ⟨g,o+j,none⟩=(xcw st)[j]?:=fun j hj=>by
    rw[← h8,qzB h4,List.getElem?_take,if_pos hj,List.getElem?_drop]
    simp
   have e1:=xpS (hget i x hx)
   show w.cell? ⟨g,o+i*1+0,none⟩=_
   rw[Nat.add_zero,hcell _ (by omega),Nat.mul_one,e1]
theorem xrf {X:QW}(hX:xaJ X=0){s:QS}{nm:ByteArray}(h:xcW X.cz s nm):∃ (q jn k:Nat) (y:QC) (m:QM) (x:QI),s.cls=(q:Int)/\X.cz[q]?=some y/\xcu y.mz s.name=(jn:Int)/\y.mz[jn]?=some m/\s.at'=(k:Int)/\m.code[k]?=some x/\x.name=nm:=by
 obtain⟨n,mt,k,x,h1,h2,h3,h4,-,h5⟩:=h;have h1':=h1;obtain⟨kc,kn,y,e1,rfl,hy,hm⟩:=xej h1
 have h0:0<=xcu y.mz s.name:=by
  by_cases h:0<=xcu y.mz s.name
  ·exact h
  ·have hn:=xlw (by omega:xcu y.mz s.name<0)
   unfold xcu xbt at hn
   cases hf:y.mz.findIdx? (fun m=>eqN m.name s.name) with
   | none=>
    rw[List.findIdx?_eq_none_iff] at hf;have:=hf mt (List.mem_of_getElem? hm);rw[(xmV _ _).2 h2] at this
    cases this
   | some i=>rw[hf] at hn;simp at hn
 obtain⟨m,hm2,hmn⟩:=xpZ h0;have hme:m=mt:=xhw hX (c:=s.cls) (k:=(xcu y.mz s.name)) (n:=(kn:Int)) (by unfold xaO;rw[e1,xfp,hy];simp only[Option.bind_some,if_pos h0];exact hm2) h1' (by rw[hmn,h2])
 subst hme
 exact⟨kc,(xcu y.mz s.name).toNat,k,y,m,x,e1,hy,by omega,hm2,h3,h4,h5⟩
theorem xqz {P:Nat->Prop}(X:QW)(s:QS)(cv hv:Value)(w:World)(hC:xai P w cv X.cz)(hhv:∃ a n c,hv=.slice a n c){q jn:Nat}{y:QC}(hs:s.cls=(q:Int))(hy:X.cz[q]?=some y)(hn:xcu y.mz s.name=(jn:Int)):Calls Tryz.prog 27 #[WV cv hv X.ez,SV s] w fun e w'=>e=.returned (.int .i64 jn)/\Below w.heap.size w w':=by
 obtain⟨ac,cc,rfl,-,-,-,hrow⟩:=id hC;obtain⟨ah,nh,ch,rfl⟩:=hhv;have hB0:=(xpY w (.slice ac X.cz.length cc) (.slice ah nh ch) X.ez).later (xaj _ (.cells #[.int .i64 s.cls,.string s.name,.int .i64 s.at'] 67));have hS0:=xeS (w.alloc (.cells #[.slice ac X.cz.length cc,.slice ah nh ch,.int .i64 X.ez] 25)) s 67;obtain⟨b,o,rfl,-,-,-,-,-,mv,h3,hM⟩:=hrow q y hy;obtain⟨am,cm,rfl,hlm,hcm,-⟩:=id hM;unfold maxLen at hcm;have hqn:=xae hy;have HN:=hid hn;have HS:=hid hs;clear hs;go_enter Tryz.func27,Tryz.ntmps27
 go_upto_region 1 with (fail)
 generalize ((w.alloc (.cells #[.slice (some ⟨b,o,none⟩) X.cz.length cc,.slice ah nh ch,.int .i64 X.ez] 25)).alloc (.cells #[.int .i64 s.cls,.string s.name,.int .i64 s.at'] 67))=W0 at *;simp only[World.size_alloc] at hS0;have a0:=hB0.a0;obtain⟨s0,s1,s2⟩:=id hS0;rw[HS.out] at s0;have h3':=qzA hB0.bel h3;have hq0:(0:Int)<=(q:Int):=by omega
 have hq1:(q:Int)<(X.cz.length:Int):=by omega
 clear hrow hn;go_wp2;clear a0 s0 s1 s2 h3'
 go_loopg [15] y.mz.length (fun g i wr=>∃ j:Nat,j+g=y.mz.length/\i=.int .i64 j/\WtB w (.slice (some ⟨b,o,none⟩) X.cz.length cc) (.slice ah nh ch) X.ez wr/\SiteAt wr (w.heap.size+1) s/\∀ (i:Nat) m,i<j->y.mz[i]?=some m->eqN m.name s.name=false)
 case atStart=>exact⟨0,by omega,rfl,hB0,hS0,fun i m h=>by omega⟩
 case round=>
  obtain⟨t,ht,rfl,hR,hSr,hnt⟩:=hrel;have HT:=hid hnt;clear hnt hB0 hS0
  by_cases htl:t<y.mz.length
  ·obtain⟨a0,k0,e0,-,-,-,hrm⟩:=hM.later xbi hR.bel;simp only[Value.slice.injEq] at e0;obtain⟨rfl,-,rfl⟩:=e0;obtain⟨b2,o2,rfl,-,p0,p1,p2,p3,-,sv,p4,hcc⟩:=hrm t y.mz[t] (by simp[htl])
   have hxt:Hid (y.mz[t]?=some y.mz[t]):=by show _=_;simp[htl]
   generalize y.mz[t]=m at *;simp only[Nat.add_zero] at p0;obtain⟨ac2,kc,rfl⟩:=hcc.get;have ht1:(t:Int)<(y.mz.length:Int):=by omega
   have ht0:(0:Int)<=(t:Int):=by omega
   have s1:=hSr.c1;have s1':=qzA (xaj wr (.cells #[.string m.name,.int .i64 m.args,.int .i64 m.temps,.int .i64 m.prim,.slice ac2 m.code.length kc] 59)) s1;clear hrm
   cases he:eqN m.name s.name
   ·have he':(m.name.toList == s.name.toList)=false:=he;go_wp2
    go_roundg (gk-1)
    case measure=>omega
    case rel=>
     refine⟨t+1,by omega,by go_num,hR.later (xaj _ _),hSr.later (xaj _ _),fun i z hi hz=>?_⟩
     by_cases hit:i=t
     ·subst hit;rw[hxt.out] at hz;cases hz;exact he
     ·exact HT.out i z (by omega) hz
   ·have he':(m.name.toList == s.name.toList)=true:=he;have hnum:Hid ((jn:Int)=(t:Int)):=HN.out.symm.trans (xb4 hxt.out he HT.out);go_wp2
    go_ret
    exact⟨xak hnum.out.symm,xah hR.bel (xaj _ _)⟩
  ·have hnum:Hid (xcu y.mz s.name=-1):=xbM fun i m hm=>HT.out i m (by have:=xae hm;omega) hm
   exact absurd (HN.out.symm.trans hnum.out) (by omega)
abbrev NoB (n t:Nat):Nat->Prop:=fun b=>b≠n/\b≠t
abbrev OB0:Obj:=.cells #[.slice none 0 0,.slice none 0 0,.int .i64 0,.int .i64 0,.int .i64 0,.int .i64 0,.int .i64 0,.slice none 0 0,.slice none 0 0,.int .i64 0,.int .i64 0] 39 (0,0)
structure CdR (X:QW)(r:Ran)(cv hv:Value)(w:World)(tb mb:Nat)(q:List Ask)(cv5 hv5 sv ov:Value)(wr:World)(st:CSt)(lv tv:Value):Prop where
 wb:WtB w cv hv X.ez wr
 lo:w.heap.size+2<tb
 lm:mb<tb
 c:xai (NoB (w.heap.size+2) tb) wr cv5 X.cz
 h:xaC (NoB (w.heap.size+2) tb) wr hv5 r.heap
 s:IsRow xrx 3 0 (NoB (w.heap.size+2) tb) wr sv q
 o:IsRow xrv 1 0 (NoB (w.heap.size+2) tb) wr ov q
 mo:wr.cell? ⟨mb,9,none⟩=some ov
 lc:xbk (NoB (w.heap.size+2) tb) wr lv st.cells
 tc:xbc (NoB (w.heap.size+2) tb) wr tv st.ts
 box:wr.heap[tb]?=some (OB2 cv5 hv5 X.ez r lv tv st)
 rb:wr.heap[w.heap.size+2]?=some OB0
section
variable {X:QW} {r:Ran} {cv hv:Value} {w:World} {tb mb:Nat} {q:List Ask} {cv5 hv5 sv ov:Value} {wr:World} {st:CSt} {lv tv:Value}
theorem CdR.later (h:CdR X r cv hv w tb mb q cv5 hv5 sv ov wr st lv tv){ws:World}(hb:Below wr.heap.size wr ws):CdR X r cv hv w tb mb q cv5 hv5 sv ov ws st lv tv:=
 ⟨h.wb.later hb,h.lo,h.lm,h.c.later xaz hb,h.h.later xaD hb,h.s.later xqm hb,h.o.later xqn hb,qzA hb h.mo,h.lc.later xbw hb,h.tc.later xbZ hb,xac h.box hb,xac h.rb hb⟩
theorem CdR.put (h:CdR X r cv hv w tb mb q cv5 hv5 sv ov wr st lv tv){o:Nat}{u:Value}{st':CSt}{lv' tv':Value}(hb:(wr.setCell ⟨tb,o,none⟩ u).heap[tb]?=some (OB2 cv5 hv5 X.ez r lv' tv' st'))(hl:xbk (NoB (w.heap.size+2) tb) wr lv' st'.cells)(ht:xbc (NoB (w.heap.size+2) tb) wr tv' st'.ts):CdR X r cv hv w tb mb q cv5 hv5 sv ov (wr.setCell ⟨tb,o,none⟩ u) st' lv' tv':=by
 have k:Keeps (NoB (w.heap.size+2) tb) wr (wr.setCell ⟨tb,o,none⟩ u):=xaq (Keeps.refl _ _) (fun h=>h.2 rfl) _
 have f:∀ (b o':Nat) (v:Value),b≠tb->wr.cell? ⟨b,o',none⟩=some v->(wr.setCell ⟨tb,o,none⟩ u).cell? ⟨b,o',none⟩=some v:=fun b o' v hn hc=>(qzI _ _ _ _ (by simp;omega)).trans hc
 have h1:=h.lo;have h2:=h.lm
 exact⟨⟨h.wb.bel.setCell (by simp;omega) _,f _ _ _ (by omega) h.wb.a0,f _ _ _ (by omega) h.wb.a1,f _ _ _ (by omega) h.wb.a2⟩,h1,h2,h.c.keep xaz k fun _ h=>h,h.h.keep xaD k fun _ h=>h,h.s.keep xqm k fun _ h=>h,h.o.keep xqn k fun _ h=>h,f _ _ _ (by omega) h.mo,hl.keep xbw k fun _ h=>h,ht.keep xbZ k fun _ h=>h,hb,by rw[xab (by omega)];exact h.rb⟩
theorem CdR.no (h:CdR X r cv hv w tb mb q cv5 hv5 sv ov wr st lv tv):∀ b,wr.heap.size<=b->NoB (w.heap.size+2) tb b:=fun b hb=>by
 have h1:=xaf h.box;have h2:=h.lo
 exact⟨by omega,by omega⟩
def xq7 (w:World)(X:QW)(r:Ran)(st:CSt)(e:Ending)(w':World):Prop:=
 Below w.heap.size w w'/\∃ cv hv lv tv,e=.returned (CaV cv hv X.ez r lv tv st.hits st.nots)/\xai Tru w' cv X.cz/\xaC Tru w' hv r.heap/\xbk Tru w' lv st.cells/\xbc Tru w' tv st.ts
theorem CdR.fin (h:CdR X r cv hv w tb mb q cv5 hv5 sv ov wr st lv tv)(u0 u1 u2 u3 u4 u5 u6 u7 u8 u9 u10:Value):xq7 w X r st (.returned (CaV cv5 hv5 X.ez r lv tv st.hits st.nots)) (((((((((((wr.setCell ⟨w.heap.size+2,0,none⟩ u0).setCell ⟨w.heap.size+2,1,none⟩ u1).setCell ⟨w.heap.size+2,2,none⟩ u2).setCell ⟨w.heap.size+2,3,none⟩ u3).setCell ⟨w.heap.size+2,4,none⟩ u4).setCell ⟨w.heap.size+2,5,none⟩ u5).setCell ⟨w.heap.size+2,6,none⟩ u6).setCell ⟨w.heap.size+2,7,none⟩ u7).setCell ⟨w.heap.size+2,8,none⟩ u8).setCell ⟨w.heap.size+2,9,none⟩ u9).setCell ⟨w.heap.size+2,10,none⟩ u10):=by
 have hn:∀ {P:Prop},(w.heap.size+2≠w.heap.size+2/\P)->False:=fun h=>h.1 rfl
 have k:Keeps (NoB (w.heap.size+2) tb) wr (((((((((((wr.setCell ⟨w.heap.size+2,0,none⟩ u0).setCell ⟨w.heap.size+2,1,none⟩ u1).setCell ⟨w.heap.size+2,2,none⟩ u2).setCell ⟨w.heap.size+2,3,none⟩ u3).setCell ⟨w.heap.size+2,4,none⟩ u4).setCell ⟨w.heap.size+2,5,none⟩ u5).setCell ⟨w.heap.size+2,6,none⟩ u6).setCell ⟨w.heap.size+2,7,none⟩ u7).setCell ⟨w.heap.size+2,8,none⟩ u8).setCell ⟨w.heap.size+2,9,none⟩ u9).setCell ⟨w.heap.size+2,10,none⟩ u10):=
  xaq (xaq (xaq (xaq (xaq (xaq (xaq (xaq (xaq (xaq (xaq (Keeps.refl _ _) hn _) hn _) hn _) hn _) hn _) hn _) hn _) hn _) hn _) hn _) hn _
 exact⟨((((((((((h.wb.bel.setCell (by simp) _).setCell (by simp) _).setCell (by simp) _).setCell (by simp) _).setCell (by simp) _).setCell (by simp) _).setCell (by simp) _).setCell (by simp) _).setCell (by simp) _).setCell (by simp) _).setCell (by simp) _,_,_,_,_,rfl,h.c.keep xaz k fun _ _=>trivial,h.h.keep xaD k fun _ _=>trivial,h.lc.keep xbw k fun _ _=>trivial,h.tc.keep xbZ k fun _ _=>trivial⟩
end
theorem bw4 {w:World}{z:Nat}{a b c d:Value}{t:TypeId}(h:w.heap[z]?=some (.cells #[a,b,c,d] t (0,0))):w.cell? ⟨z,0,none⟩=some a/\w.cell? ⟨z,1,none⟩=some b/\w.cell? ⟨z,2,none⟩=some c/\w.cell? ⟨z,3,none⟩=some d:=
 ⟨by rw[qzB h];rfl,by rw[qzB h];rfl,by rw[qzB h];rfl,by rw[qzB h];rfl⟩
structure CdI (X:QW)(st0:CSt)(q:List Ask)(j:Nat)(st:CSt):Prop where
 eq:st=xqa X st0 (q.take j)
 few:CFew st (401-j)
 ins:InS X st.cells
theorem xq6 {w w':World}{b0 o0:Nat}{v0:Value}{b1 o1:Nat}{v1:Value}{b2 o2:Nat}{v2:Value}{b3 o3:Nat}{v3:Value}{b4 o4:Nat}{v4:Value}{b5 o5:Nat}{v5:Value}{b6 o6:Nat}{v6:Value}{b7 o7:Nat}{v7:Value}{b8 o8:Nat}{v8:Value}(h:w.cell? ⟨b0,o0,none⟩=some v0/\w.cell? ⟨b1,o1,none⟩=some v1/\w.cell? ⟨b2,o2,none⟩=some v2/\w.cell? ⟨b3,o3,none⟩=some v3/\w.cell? ⟨b4,o4,none⟩=some v4/\w.cell? ⟨b5,o5,none⟩=some v5/\w.cell? ⟨b6,o6,none⟩=some v6/\w.cell? ⟨b7,o7,none⟩=some v7/\w.cell? ⟨b8,o8,none⟩=some v8)(hb:Below w.heap.size w w'):w'.cell? ⟨b0,o0,none⟩=some v0/\w'.cell? ⟨b1,o1,none⟩=some v1/\w'.cell? ⟨b2,o2,none⟩=some v2/\w'.cell? ⟨b3,o3,none⟩=some v3/\w'.cell? ⟨b4,o4,none⟩=some v4/\w'.cell? ⟨b5,o5,none⟩=some v5/\w'.cell? ⟨b6,o6,none⟩=some v6/\w'.cell? ⟨b7,o7,none⟩=some v7/\w'.cell? ⟨b8,o8,none⟩=some v8:=
 ⟨qzA hb h.1,qzA hb h.2.1,qzA hb h.2.2.1,qzA hb h.2.2.2.1,qzA hb h.2.2.2.2.1,qzA hb h.2.2.2.2.2.1,qzA hb h.2.2.2.2.2.2.1,qzA hb h.2.2.2.2.2.2.2.1,qzA hb h.2.2.2.2.2.2.2.2⟩
theorem bw11 {w:World}{z:Nat}{v0 v1 v2 v3 v4 v5 v6 v7 v8 v9 v10:Value}{t:TypeId}(h:w.heap[z]?=some (.cells #[v0,v1,v2,v3,v4,v5,v6,v7,v8,v9,v10] t (0,0))):w.cell? ⟨z,0,none⟩=some v0/\w.cell? ⟨z,1,none⟩=some v1/\w.cell? ⟨z,2,none⟩=some v2/\w.cell? ⟨z,3,none⟩=some v3/\w.cell? ⟨z,4,none⟩=some v4/\w.cell? ⟨z,5,none⟩=some v5/\w.cell? ⟨z,6,none⟩=some v6/\w.cell? ⟨z,7,none⟩=some v7/\w.cell? ⟨z,8,none⟩=some v8/\w.cell? ⟨z,9,none⟩=some v9/\w.cell? ⟨z,10,none⟩=some v10:=by
 refine⟨?_,?_,?_,?_,?_,?_,?_,?_,?_,?_,?_⟩<;>(rw[qzB h];rfl)
theorem xqV {X:QW}{st:CSt}{s:QS}{c:Int}(nm:ByteArray)(h:0<=xft st.cells s X.ez c):xpv X st s c nm=⟨st.cells,xc1 st.ts s c,st.hits+1,st.nots⟩:=if_pos h
theorem xqU {X:QW}{st:CSt}{s:QS}{c:Int}{nm:ByteArray}(h:¬ 0<=xft st.cells s X.ez c)(h2:0<=(xaw X.cz c nm).2):xpv X st s c nm=⟨xcX st.cells s X.ez ⟨c,(xaw X.cz c nm).1⟩,xc1 st.ts s c,st.hits,st.nots+1⟩:=by unfold xpv;rw[if_neg h,if_pos h2]
theorem xrb {X:QW}{st:CSt}{s:QS}{c:Int}{nm:ByteArray}(h:¬ 0<=xft st.cells s X.ez c)(h2:¬ 0<=(xaw X.cz c nm).2):xpv X st s c nm=⟨st.cells,xc1 st.ts s c,st.hits,st.nots+1⟩:=by unfold xpv;rw[if_neg h,if_neg h2]
theorem CdI.next {X:QW}{st0:CSt}{q:List Ask}{j:Nat}{st:CSt}(h:CdI X st0 q j st)(hj:j<=400){s:QS}{c:Int}{nm:ByteArray}(ha:q[j]?=some (s,c,nm)):CdI X st0 q (j+1) (xpv X st s c nm):=by
 refine⟨?_,?_,(h.ins.look s c nm).2⟩
 ·rw[h.eq,xqM ha]
 ·have hf:=h.few;rw[show 401-j=(401-(j+1))+1 from by omega] at hf
  exact xqS h.ins hf s c nm
theorem xqd {P Q R S:Nat->Prop}(X:QW)(hX:xaJ X=0)(s:QV)(name:ByteArray)(args:List QV)(fuel:Int)(l:List QE)(ts:List QT)(cv hv av lv tv:Value)(w:World)(hC:xai P w cv X.cz)(hH:xaC P w hv X.heap)(hA:xaB Q w av args)(hL:xbk R w lv l)(hT:xbc S w tv ts)(hn:name.size<=140737488351232)(hf:CFew ⟨l,ts,0,0⟩ 401)(hI:InS X l) :
  Calls Tryz.prog 8 #[WV cv hv X.ez,ClV s name av,.int .i64 fuel,lv,tv] w fun e w'=>xq7 w X (xcI X s name args fuel) (xqa X ⟨l,ts,0,0⟩ (xpw X s name args fuel)) e w':=by
 obtain⟨ac,cc,rfl,-⟩:=id hC;obtain⟨ah,ch,rfl,-⟩:=id hH;obtain⟨aa,ca,rfl,-⟩:=id hA;obtain⟨al,kl,rfl,-⟩:=id hL;obtain⟨at',kt,rfl,-⟩:=id hT;have hb0:Below w.heap.size w (((w.alloc (.cells #[.slice ac X.cz.length cc,.slice ah X.heap.length ch,.int .i64 X.ez] 25)).alloc (.cells #[.int .i64 s.k,.int .i64 s.n,.string name,.slice aa args.length ca] 30)).alloc OB0):=xah (xca _ _ _) (xaj _ _);have hW0:=(xpY w (.slice ac X.cz.length cc) (.slice ah X.heap.length ch) X.ez).later (xca _ (.cells #[.int .i64 s.k,.int .i64 s.n,.string name,.slice aa args.length ca] 30) OB0);have hp0:(((w.alloc (.cells #[.slice ac X.cz.length cc,.slice ah X.heap.length ch,.int .i64 X.ez] 25)).alloc (.cells #[.int .i64 s.k,.int .i64 s.n,.string name,.slice aa args.length ca] 30)).alloc OB0).heap[w.heap.size+1]?=some (.cells #[.int .i64 s.k,.int .i64 s.n,.string name,.slice aa args.length ca] 30 (0,0)):=xac (by have:=qzJ (w.alloc (.cells #[.slice ac X.cz.length cc,.slice ah X.heap.length ch,.int .i64 X.ez] 25)) (.cells #[.int .i64 s.k,.int .i64 s.n,.string name,.slice aa args.length ca] 30);simpa using this) (xaj _ _)
 have hr0:(((w.alloc (.cells #[.slice ac X.cz.length cc,.slice ah X.heap.length ch,.int .i64 X.ez] 25)).alloc (.cells #[.int .i64 s.k,.int .i64 s.n,.string name,.slice aa args.length ca] 30)).alloc OB0).heap[w.heap.size+2]?=some OB0:=by
  have:=qzJ ((w.alloc (.cells #[.slice ac X.cz.length cc,.slice ah X.heap.length ch,.int .i64 X.ez] 25)).alloc (.cells #[.int .i64 s.k,.int .i64 s.n,.string name,.slice aa args.length ca] 30)) OB0
  simpa using this
 have hz0:(((w.alloc (.cells #[.slice ac X.cz.length cc,.slice ah X.heap.length ch,.int .i64 X.ez] 25)).alloc (.cells #[.int .i64 s.k,.int .i64 s.n,.string name,.slice aa args.length ca] 30)).alloc OB0).heap.size=w.heap.size+3:=by simp
 have HCW:=hid hC;have HHW:=hid hH;have HF:=hid hf;have HI:=hid hI;have hst0:=fun a (h:a∈xpw X s name args fuel)=>xrf hX (xqJ s name args fuel a h)
 have hqn:=xqY (X:=X) s name args fuel;have hsq:=xqu X s name args fuel;have HQN:=hid hqn;clear hf hI hqn;go_enter Tryz.func8,Tryz.ntmps8
 go_upto_region 1 with (fail)
 generalize (((w.alloc (.cells #[.slice ac X.cz.length cc,.slice ah X.heap.length ch,.int .i64 X.ez] 25)).alloc (.cells #[.int .i64 s.k,.int .i64 s.n,.string name,.slice aa args.length ca] 30)).alloc OB0)=W0 at *;obtain⟨-,a0,a1,a2⟩:=id hW0;obtain⟨p0,p1,p2,p3⟩:=bw4 hp0;go_wp2_with fail;refine (xms (w.heap.size+2) X hX s name args fuel _ _ _ W0 (by omega) (((xbF hC).later xaz hb0).mono xaz fun b (h:b<w.heap.size)=>(by omega:b≠w.heap.size+2)) (((xcq hH).later xaD hb0).mono xaD fun b (h:b<w.heap.size)=>(by omega:b≠w.heap.size+2)) (((xer hA).later xaK hb0).mono xaK fun b (h:b<w.heap.size)=>(by omega:b≠w.heap.size+2)) hn).mono ?_
 rintro e w1 ⟨hb1,cv5,hv5,T5,mm,deep,err,hv',sv,ov,rfl,hC5,hH5,hM,hst,hTz⟩;obtain⟨hSr,hOr⟩:=xqC (z:=w.heap.size+2) (hst.trans hsq) hM.sites hM.of (fun g hg e=>by have:=hM.stag g hg;rw[e] at this;omega) (fun g hg e=>by have:=hM.otag g hg;rw[e] at this;omega)
 have hC6:=xpr hC5;have hH6:=xpK hH5;have hL6:xbk (fun b=>b<w.heap.size) w1 (.slice al l.length kl) l:=((xp7 hL).later xbw (xah hb0 hb1)).mono xbw fun b h=>h.2
 have hT6:xbc (fun b=>b<w.heap.size) w1 (.slice at' ts.length kt) ts:=((xpF hT).later xbZ (xah hb0 hb1)).mono xbZ fun b h=>h.2
 obtain⟨a5,k5,rfl⟩:∃ a c,cv5=.slice a X.cz.length c:=hC5.get;obtain⟨a6,k6,rfl⟩:∃ a c,hv5=.slice a (xcI X s name args fuel).heap.length c:=hH5.get;obtain⟨a7,k7,rfl⟩:∃ a c,sv=.slice a (xpw X s name args fuel).length c:=hSr.get;obtain⟨a8,k8,rfl⟩:∃ a c,ov=.slice a (xpw X s name args fuel).length c:=hOr.get;have c8:=hM.c8;have c9:=hM.c9;have hmb:=xaf hM.box;have hW1:=hW0.later hb1;have hr1:=xac hr0 hb1;have hs1:=hb1.size;have HZ:Hid (w.heap.size+3<=w1.heap.size):=hid (by omega)
 obtain⟨mb,hmbe⟩:∃ mb,W0.heap.size+4=mb:=⟨_,rfl⟩;rw[hmbe] at c8 c9 hmb ⊢;clear hM hst hsq hC5 hH5 hC hH hA hL hT a0 a1 a2 p0 p1 p2 p3 hp0 hr0 hW0 hz0 hs1 hmbe hb1 hb0;generalize hqe:xpw X s name args fuel=q at *;generalize hre:xcI X s name args fuel=r at *;have HQE:=hid hqe;have HRE:=hid hre;clear hqe hre;dsimp only;have hb3:Below w1.heap.size w1 (((w1.alloc (.cells #[.slice a5 X.cz.length k5,.slice a6 r.heap.length k6,.int .i64 X.ez] 25)).alloc (.cells #[.int .i64 r.v.k,.int .i64 r.v.n,.int .i64 r.err,.int .i64 r.sz_] 37)).alloc (.cells #[.slice a5 X.cz.length k5,.slice a6 r.heap.length k6,.int .i64 X.ez,.int .i64 r.v.k,.int .i64 r.v.n,.int .i64 r.err,.int .i64 r.sz_,.slice al l.length kl,.slice at' ts.length kt,.int .i64 0,.int .i64 0] 39)):=xah (xca _ _ _) (xaj _ _)
 have hR0:CdR X r (.slice ac X.cz.length cc) (.slice ah X.heap.length ch) w (w1.heap.size+2) mb q (.slice a5 X.cz.length k5) (.slice a6 r.heap.length k6) (.slice a7 q.length k7) (.slice a8 q.length k8) (((w1.alloc (.cells #[.slice a5 X.cz.length k5,.slice a6 r.heap.length k6,.int .i64 X.ez] 25)).alloc (.cells #[.int .i64 r.v.k,.int .i64 r.v.n,.int .i64 r.err,.int .i64 r.sz_] 37)).alloc (.cells #[.slice a5 X.cz.length k5,.slice a6 r.heap.length k6,.int .i64 X.ez,.int .i64 r.v.k,.int .i64 r.v.n,.int .i64 r.err,.int .i64 r.sz_,.slice al l.length kl,.slice at' ts.length kt,.int .i64 0,.int .i64 0] 39)) ⟨l,ts,0,0⟩ (.slice al l.length kl) (.slice at' ts.length kt):=by
  have hz:=HZ.out;refine⟨hW1.later hb3,by omega,by omega,(hC6.later xaz hb3).mono xaz ?_,(hH6.later xaD hb3).mono xaD ?_,(hSr.later xqm hb3).mono xqm ?_,(hOr.later xqn hb3).mono xqn ?_,qzA hb3 c9,(hL6.later xbw hb3).mono xbw ?_,(hT6.later xbZ hb3).mono xbZ ?_,?_,xac hr1 hb3⟩
  ·exact fun b h=>⟨h.1,by have:=h.2;omega⟩
  ·exact fun b h=>⟨h.1,by have:=h.2;omega⟩
  ·exact fun b h=>⟨h.1,by have:=h.2;omega⟩
  ·exact fun b h=>⟨h.1,by have:=h.2;omega⟩
  ·exact fun b (h:b<w.heap.size)=>⟨by omega,by omega⟩
  ·exact fun b (h:b<w.heap.size)=>⟨by omega,by omega⟩
  ·have:=qzJ ((w1.alloc (.cells #[.slice a5 X.cz.length k5,.slice a6 r.heap.length k6,.int .i64 X.ez] 25)).alloc (.cells #[.int .i64 r.v.k,.int .i64 r.v.n,.int .i64 r.err,.int .i64 r.sz_] 37)) (.cells #[.slice a5 X.cz.length k5,.slice a6 r.heap.length k6,.int .i64 X.ez,.int .i64 r.v.k,.int .i64 r.v.n,.int .i64 r.err,.int .i64 r.sz_,.slice al l.length kl,.slice at' ts.length kt,.int .i64 0,.int .i64 0] 39)
   simpa using this
 go_upto_region 3 with (fail)
 simp only[Nat.add_assoc,Nat.reduceAdd];have c8:=qzA hb3 c8;generalize (((w1.alloc (.cells #[.slice a5 X.cz.length k5,.slice a6 r.heap.length k6,.int .i64 X.ez] 25)).alloc (.cells #[.int .i64 r.v.k,.int .i64 r.v.n,.int .i64 r.err,.int .i64 r.sz_] 37)).alloc (.cells #[.slice a5 X.cz.length k5,.slice a6 r.heap.length k6,.int .i64 X.ez,.int .i64 r.v.k,.int .i64 r.v.n,.int .i64 r.err,.int .i64 r.sz_,.slice al l.length kl,.slice at' ts.length kt,.int .i64 0,.int .i64 0] 39))=W3 at *;generalize w1.heap.size+2=tb at *;clear hb3;have hql:q.length<=400:=HQN.out;have hI0:CdI X ⟨l,ts,0,0⟩ q 0 ⟨l,ts,0,0⟩:=⟨rfl,HF.out,HI.out⟩
 go_wp2;clear c8
 go_loopg [38] q.length (fun g i wr=>∃ (j:Nat) (st:CSt) (lv tv:Value),j+g=q.length/\i=.int .i64 j/\CdR X r (.slice ac X.cz.length cc) (.slice ah X.heap.length ch) w tb mb q (.slice a5 X.cz.length k5) (.slice a6 r.heap.length k6) (.slice a7 q.length k7) (.slice a8 q.length k8) wr st lv tv/\CdI X ⟨l,ts,0,0⟩ q j st)
 case atStart=>exact⟨0,_,_,_,by omega,rfl,hR0,hI0⟩
 case round=>
  obtain⟨j,st,lv,tv,hj,rfl,hR,hI⟩:=hrel;obtain⟨a3,k3,rfl⟩:∃ a c,lv=.slice a st.cells.length c:=hR.lc.get;obtain⟨a4,k4,rfl⟩:∃ a c,tv=.slice a st.ts.length c:=hR.tc.get;have HI:=hid hI;clear hR0 hI0 hI
  by_cases hlt:j<q.length
  ·obtain⟨⟨⟨sc,sn,sa⟩,cx,nm⟩,haj⟩:∃ a,q[j]?=some a:=⟨_,List.getElem?_eq_getElem hlt⟩;obtain⟨qn,jn,k,yc,m,ins,e1,e2,e3,e4,e5,e6,e7⟩:=hst0 _ (List.mem_of_getElem? haj);dsimp only at e1 e3 e5 e7;subst e1 e5 e7;have HAJ:=hid haj;obtain⟨d1,c1,g1,-,-,-,hr1⟩:=id hR.s;simp only[Value.slice.injEq] at g1;obtain⟨rfl,-,rfl⟩:=g1;obtain⟨b,o,rfl,-,q0,q1,q2⟩:=hr1 j _ haj;obtain⟨d2,c2,g2,-,-,-,hr2⟩:=id hR.o;simp only[Value.slice.injEq] at g2;obtain⟨rfl,-,rfl⟩:=g2;obtain⟨b2,o2,rfl,-,p0⟩:=hr2 j _ haj;unfold xrv at p0;simp only[Nat.add_zero,Nat.mul_one] at q0 p0;dsimp only at q0 q1 q2 p0;have HE2:=hid e2;have HE3:=hid e3
   have HE4:=hid e4;have HE6:=hid e6;have hj1:(j:Int)<(q.length:Int):=by omega
   have hj0:(0:Int)<=(j:Int):=by omega
   have hbx:=xaj wr (.cells #[.int .i64 (qn:Int),.string sn,.int .i64 (k:Int)] 67);have hS:=xeS wr ⟨qn,sn,k⟩ 67;clear hr1 hr2 haj e2 e3 e4 e6
   go_upto_region 6 with (fail)
   replace hR:=hR.later hbx;replace p0:=qzA hbx p0;have hzs:wr.heap.size<(wr.alloc (.cells #[.int .i64 (qn:Int),.string sn,.int .i64 (k:Int)] 67)).heap.size:=by simp
   clear q0 q1 q2 hbx;generalize (wr.alloc (.cells #[.int .i64 (qn:Int),.string sn,.int .i64 (k:Int)] 67))=W at *;generalize wr.heap.size=sb at *;have m9:=hR.mo
   go_upto_region 7 with (fail)
   clear p0 m9;obtain⟨-,-,-,-,-,-,-,b7,b8,b9,b10⟩:=xoL hR.box;obtain⟨s0,s1,s2⟩:=id hS;have hfw:=HI.out.few;have hlc:=hR.tc;go_wp2_with fail;refine (xqL (NoB (w.heap.size+2) tb) st.ts _ ⟨qn,sn,k⟩ cx W hR.no hR.tc (by have:=hfw.t;omega) (fun x hx=>by have:=hfw.tl x hx;omega)).mono ?_
   rintro e w2 ⟨a9,k9,rfl,hT9,hb2⟩;have hR2:=(hR.later hb2).put (o:=8) (u:=.slice a9 (xc1 st.ts ⟨qn,sn,k⟩ cx).length k9) (st':=⟨st.cells,xc1 st.ts ⟨qn,sn,k⟩ cx,st.hits,st.nots⟩) (lv':=.slice a3 st.cells.length k3) (tv':=.slice a9 (xc1 st.ts ⟨qn,sn,k⟩ cx).length k9) (by rw[xad (hR.later hb2).box];rfl) (hR.later hb2).lc hT9
   replace hS:=hS.later hb2;have hzs2:=qzE hzs hb2.size;have htz:=xaf hR.box
   have hS2:SiteAt (w2.setCell ⟨tb,8,none⟩ (.slice a9 (xc1 st.ts ⟨qn,sn,k⟩ cx).length k9)) sb ⟨qn,sn,k⟩:=by
    have hne:sb≠tb:=by
     intro e;subst e;have:=hR.box;have h1:=hS.c1;have h2:=(hR.later hb2).box;rw[qzB h2] at h1
     simp at h1
    exact⟨(qzI _ _ _ _ (by simp;omega)).trans hS.c0,(qzI _ _ _ _ (by simp;omega)).trans hS.c1,(qzI _ _ _ _ (by simp;omega)).trans hS.c2⟩
   have fz:=xam (hR.later hb2).box;obtain⟨-,-,-,-,-,-,-,b7,b8,b9,b10⟩:=xoL (hR.later hb2).box;clear s0 s1 s2 hfw hlc hT9 hR hzs hS hb2
   go_upto_region 8 with (fail)
   generalize (w2.setCell ⟨tb,8,none⟩ (.slice a9 (xc1 st.ts ⟨qn,sn,k⟩ cx).length k9))=V at *;clear b7 b8 b9 b10 fz;obtain⟨-,-,-,-,-,-,-,b7,b8,b9,b10⟩:=xoL hR2.box;obtain⟨s0,s1,s2⟩:=id hS2;obtain⟨-,a0,a1,a2⟩:=id hR2.wb;dsimp only at b7 b8 b9 b10;have hbh:=HI.out.few.h;have hbk:=HI.out.few.k;go_wp2_with fail;refine (xqZ st.cells _ ⟨qn,sn,k⟩ X.ez cx V hR2.lc).mono ?_;rintro e w3 ⟨rfl,hb3⟩;replace hR2:=hR2.later hb3;replace hS2:=hS2.later hb3;clear b7 b8 b9 b10 s0 s1 s2 a0 a1 a2 hb3;have fz:=xam hR2.box;obtain⟨-,-,-,-,-,-,-,b7,b8,b9,b10⟩:=xoL hR2.box;dsimp only at b7 b8 b9 b10
   by_cases g0:0<=xft st.cells ⟨qn,sn,k⟩ X.ez cx
   ·have hd0:decide (0<=xft st.cells ⟨qn,sn,k⟩ X.ez cx)=true:=by simpa using g0
    have HL:=hid (xqV (X:=X) (st:=st) ins.name g0);have hwr:IntKind.i64.wrap (st.hits+1)=st.hits+1:=xaE (by omega) (by omega)
    have hwr':wrap64 (st.hits+1)=st.hits+1:=by unfold wrap64;omega
    have hR3:=hR2.put (o:=9) (u:=.int .i64 (st.hits+1)) (st':=⟨st.cells,xc1 st.ts ⟨qn,sn,k⟩ cx,st.hits+1,st.nots⟩) (lv':=.slice a3 st.cells.length k3) (tv':=.slice a9 (xc1 st.ts ⟨qn,sn,k⟩ cx).length k9) (by rw[xad hR2.box];rfl) hR2.lc hR2.tc
    rw[← HL.out] at hR3;have HR3:=hid hR3;clear g0 hR2 hR3;generalize xft st.cells ⟨qn,sn,k⟩ X.ez cx=gt at *;go_wp2
    go_roundg (gk-1)
    case measure=>omega
    case rel=>exact⟨j+1,_,_,_,by omega,by go_num,HR3.out,HI.out.next (by omega) HAJ.out⟩
   ·have hd0:decide (0<=xft st.cells ⟨qn,sn,k⟩ X.ez cx)=false:=by simpa using g0
    have HG:=hid g0;have hwr:IntKind.i64.wrap (st.nots+1)=st.nots+1:=xaE (by omega) (by omega)
    have hwr':wrap64 (st.nots+1)=st.nots+1:=by unfold wrap64;omega
    have hR3:=hR2.put (o:=10) (u:=.int .i64 (st.nots+1)) (st':=⟨st.cells,xc1 st.ts ⟨qn,sn,k⟩ cx,st.hits,st.nots+1⟩) (lv':=.slice a3 st.cells.length k3) (tv':=.slice a9 (xc1 st.ts ⟨qn,sn,k⟩ cx).length k9) (by rw[xad hR2.box];rfl) hR2.lc hR2.tc
    have hS3:SiteAt (w3.setCell ⟨tb,10,none⟩ (.int .i64 (st.nots+1))) sb ⟨qn,sn,k⟩:=by
     have hne:sb≠tb:=by
      intro e;subst e;have h1:=hS2.c1;rw[qzB hR2.box] at h1
      simp at h1
     exact⟨(qzI _ _ _ _ (by simp;omega)).trans hS2.c0,(qzI _ _ _ _ (by simp;omega)).trans hS2.c1,(qzI _ _ _ _ (by simp;omega)).trans hS2.c2⟩
    clear g0 hR2 hS2
    go_upto_region 11 with (fail)
    clear hd0 hwr hwr' b7 b8 b9 b10 fz;generalize (w3.setCell ⟨tb,10,none⟩ (.int .i64 (st.nots+1)))=Y at *;obtain⟨-,a0,a1,a2⟩:=id hR3.wb;obtain⟨s0,s1,s2⟩:=id hS3;have hCd:=(HCW.out.later xaz hR3.wb.bel).later xaz (qzL _ Y).drew;have hHd:=(HHW.out.later xaD hR3.wb.bel).later xaD (qzL _ Y).drew;obtain⟨bc,oc,bm,om,cm,av,ck,rfl,m3,m4,hK⟩:=xpV hCd HE2.out HE4.out;obtain⟨bi,oi,rfl,i4⟩:=xp2 hK HE6.out;have hqn0:(0:Int)<=(qn:Int):=by omega
    have hqn1:(qn:Int)<(X.cz.length:Int):=by have:=xae HE2.out;omega
    have hjn0:(0:Int)<=(jn:Int):=by omega
    have hjn1:(jn:Int)<(yc.mz.length:Int):=by have:=xae HE4.out;omega
    have hk0:(0:Int)<=(k:Int):=by omega
    have hk1:(k:Int)<(m.code.length:Int):=by have:=xae HE6.out;omega
    have hS0:Y.drew.cell? ⟨w.heap.size,0,none⟩=some (.slice (some ⟨bc,oc,none⟩) X.cz.length cc)/\Y.drew.cell? ⟨w.heap.size,1,none⟩=some (.slice ah X.heap.length ch)/\Y.drew.cell? ⟨w.heap.size,2,none⟩=some (.int .i64 X.ez)/\Y.drew.cell? ⟨sb,0,none⟩=some (.int .i64 (qn:Int))/\Y.drew.cell? ⟨sb,1,none⟩=some (.string sn)/\Y.drew.cell? ⟨sb,2,none⟩=some (.int .i64 (k:Int))/\Y.drew.cell? ⟨bc,oc+qn*4+3,none⟩=some (.slice (some ⟨bm,om,none⟩) yc.mz.length cm)/\Y.drew.cell? ⟨bm,om+jn*5+4,none⟩=some (.slice (some ⟨bi,oi,none⟩) m.code.length ck)/\Y.drew.cell? ⟨bi,oi+k*5+4,none⟩=some (.string ins.name):=⟨a0,a1,a2,s0,s1,s2,m3,m4,i4⟩
    replace hR3:=hid (hR3.later (qzL _ Y).drew);replace hS3:=hid (hS3.later (qzL _ Y).drew);clear a0 a1 a2 s0 s1 s2 m3 m4 i4 hK;have tokA:True:=trivial
    go_region_held3 (fun w'=>w'.cell? ⟨w.heap.size,0,none⟩=some (.slice (some ⟨bc,oc,none⟩) X.cz.length cc)/\w'.cell? ⟨w.heap.size,1,none⟩=some (.slice ah X.heap.length ch)/\w'.cell? ⟨w.heap.size,2,none⟩=some (.int .i64 X.ez)/\w'.cell? ⟨sb,0,none⟩=some (.int .i64 (qn:Int))/\w'.cell? ⟨sb,1,none⟩=some (.string sn)/\w'.cell? ⟨sb,2,none⟩=some (.int .i64 (k:Int))/\w'.cell? ⟨bc,oc+qn*4+3,none⟩=some (.slice (some ⟨bm,om,none⟩) yc.mz.length cm)/\w'.cell? ⟨bm,om+jn*5+4,none⟩=some (.slice (some ⟨bi,oi,none⟩) m.code.length ck)/\w'.cell? ⟨bi,oi+k*5+4,none⟩=some (.string ins.name))
     (first | with_reducible exact hS0 | with_reducible exact hS1 | with_reducible exact hS2)
     (first
      | (have _t:=tokA;go_at_call 27;refine (xqz X ⟨qn,sn,k⟩ _ _ _ hCd ⟨_,_,_,rfl⟩ rfl HE2.out HE3.out).mono ?_;rintro e w4 ⟨rfl,hb4⟩;have hS1:=xq6 hS0 hb4;clear tokA;have tokB:True:=trivial)
      | (have _u:=tokB;go_at_call 19;refine (xhs X cx ins.name _ _ _ (hCd.later xaz hb4) (hHd.later xaD hb4)).mono ?_;rintro e w5 ⟨rfl,hb5⟩;have hS2:=xq6 hS1 hb5;clear tokB))
    have hb45:=xah hb4 hb5;have hR4:=hR3.out.later hb45;have hS4:=hS3.out.later hb45;clear hS0 hS1 hS2 hCd hHd hb4 hb5 hb45 hR3 hS3;have HLP:=hid (fun h2=>xqU (X:=X) (st:=st) (s:=⟨qn,sn,k⟩) (c:=cx) (nm:=ins.name) (by have:=HG.out;omega) h2)
    have HLN:=hid (fun h2=>xrb (X:=X) (st:=st) (s:=⟨qn,sn,k⟩) (c:=cx) (nm:=ins.name) (by have:=HG.out;omega) h2)
    have HNX:=hid (HI.out.next (by omega) HAJ.out)
    generalize xaw X.cz cx ins.name=fr at *;obtain⟨f1,f2⟩:=fr;dsimp only at *;have fz:=xam hR4.box;obtain⟨-,-,-,-,-,-,-,b7,b8,b9,b10⟩:=xoL hR4.box;dsimp only at b7 b8 b9 b10;obtain⟨s0,s1,s2⟩:=id hS4;obtain⟨-,a0,a1,a2⟩:=id hR4.wb
    by_cases k2:0<=f2
    ·have hd2:decide (0<=f2)=true:=by simpa using k2
     have HL:=hid (HLP.out k2);have hcb:=HI.out.few.c;clear k2 HLP HLN;go_wp2_with fail;refine (xqT (NoB (w.heap.size+2) tb) st.cells _ ⟨qn,sn,k⟩ X.ez cx f1 _ hR4.no hR4.lc (by omega)).mono ?_
     rintro e w6 ⟨ap,kp,rfl,hP6,hb6⟩;have hR5:=(hR4.later hb6).put (o:=7) (u:=.slice ap (xcX st.cells ⟨qn,sn,k⟩ X.ez ⟨cx,f1⟩).length kp) (st':=⟨xcX st.cells ⟨qn,sn,k⟩ X.ez ⟨cx,f1⟩,xc1 st.ts ⟨qn,sn,k⟩ cx,st.hits,st.nots+1⟩) (lv':=.slice ap (xcX st.cells ⟨qn,sn,k⟩ X.ez ⟨cx,f1⟩).length kp) (tv':=.slice a9 (xc1 st.ts ⟨qn,sn,k⟩ cx).length k9) (by rw[xad (hR4.later hb6).box];rfl) hP6 (hR4.later hb6).tc
     rw[← HL.out] at hR5;have HR5:=hid hR5;have fz:=xam (hR4.later hb6).box;obtain⟨-,-,-,-,-,-,-,b7,b8,b9,b10⟩:=xoL (hR4.later hb6).box;dsimp only at b7 b8 b9 b10;clear hR4 hS4 s0 s1 s2 a0 a1 a2 hR5 hP6 hb6;go_wp2
     go_roundg (gk-1)
     case measure=>omega
     case rel=>exact⟨j+1,_,_,_,by omega,by go_num,HR5.out,HNX.out⟩
    ·have hd2:decide (0<=f2)=false:=by simpa using k2
     have HL:=hid (HLN.out k2);rw[← HL.out] at hR4;have HR5:=hid hR4;clear k2 HLP HLN hR4 hS4 s0 s1 s2 a0 a1 a2 b7 b8 b9 b10 fz;go_wp2
     go_roundg (gk-1)
     case measure=>omega
     case rel=>exact⟨j+1,_,_,_,by omega,by go_num,HR5.out,HNX.out⟩
  ·obtain rfl:j=q.length:=by omega
   have HE:=hid HI.out.eq;have fz:=xam hR.rb;obtain⟨z0,z1,z2,z3,z4,z5,z6,z7,z8,z9,z10⟩:=bw11 hR.rb;obtain⟨b0,b1,b2,b3,b4,b5,b6,b7,b8,b9,b10⟩:=xoL hR.box;have HQ:=hid (hR.fin);have HT:Hid (q.take q.length=q):=List.take_of_length_le (qzC _);go_wp2;refine qzK (v:=CaV (.slice a5 X.cz.length k5) (.slice a6 r.heap.length k6) X.ez r (.slice a3 st.cells.length k3) (.slice a4 st.ts.length k4) st.hits st.nots) ?_ rfl ?_
   ·simp[results,Tryz.results8,go_sem,z0,z1,z2,z3,z4,z5,z6,z7,z8,z9,z10]
   ·rw[HT.out] at HE;rw[HQE.out,HRE.out,← HE.out]
    exact HQ.out _ _ _ _ _ _ _ _ _ _ _
end Go.Proofs.YtapbeiccodnniaaGreat
