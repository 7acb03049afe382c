/- A part. -/
import Derived.Test.YtdfbgpiikeheiaaQ10
namespace Go.Proofs.Ytdfbgpiikeheiaa
open Go.ChangeShapes Go.WideShapes Go.ChangeAt Go.RowKit
set_option linter.unusedSimpArgs false
set_option linter.unusedVariables false
set_option maxHeartbeats 8000000
theorem xe5 {X:QW}{j:Nat}{ms:List QM}(h:∀ i y,ms[i]?=some y->rmE X j ms i y=0):∀ (e i:Nat) (a b:QM),ms[i]?=some a->ms[i+e+1]?=some b->ltN a.name b.name=true
 | 0,i,a,b,ha,hb=>by
  have h1:=h (i+1) b hb;unfold rmE at h1
  split at h1
  ·cases h1
  ·rename_i h2;simp only[xeZ,ha] at h2
   simpa using h2
 | e+1,i,a,b,ha,hb=>by
  have hlt:=xae hb;obtain⟨p,hp⟩:∃ p,ms[i+e+1]?=some p:=⟨_,List.getElem?_eq_getElem (by omega)⟩
  have h1:=h (i+(e+1)+1) b hb;unfold rmE at h1
  split at h1
  ·cases h1
  ·rename_i h2;have e1:ms[i+(e+1)]?=some p:=hp;simp only[xeZ,e1] at h2
   exact xgu (xe5 h e i a p ha hp) (by simpa using h2)
theorem xiT {X:QW}(hX:xaH X=0){c k n:Int}{a b:QM}(ha:xaI X.cz c k=some a)(hb:xaI X.cz c n=some b)(hn:a.name=b.name):a=b:=by
 obtain⟨kc,kk,x,rfl,rfl,hx,hak⟩:=xfm ha;obtain⟨kc',kn,x',e1,rfl,hx',hbn⟩:=xfm hb;have:kc'=kc:=by omega
 subst this;rw[hx] at hx'
 cases hx'
 obtain⟨-,-,hM,-⟩:=xcl hX;have h1:=hM kc' x (xae hx) hx;unfold rkE at h1
 split at h1
 ·cases h1
 ·split at h1
  ·cases h1
  ·have hall:=xbM h1
   rcases Nat.lt_trichotomy kk kn with hlt | heq | hgt
   ·have:=xe5 hall (kn-kk-1) kk a b hak (by rw[show kk+(kn-kk-1)+1=kn by omega];exact hbn)
    have h2:=xeF this;rw[hn,xfF.2 rfl] at h2
    cases h2
   ·subst heq;rw[hak] at hbn
    cases hbn
    rfl
   ·have:=xe5 hall (kk-kn-1) kn b a hbn (by rw[show kn+(kk-kn-1)+1=kk by omega];exact hak)
    have h2:=xeF this;rw[hn,xfF.2 rfl] at h2
    cases h2
def xd7 (X:QW)(f:Fst):Prop:=∃ c k mt sites,xaI X.cz c k=some mt/\xce X c mt sites=(f,true)
theorem xlm {X:QW}{c:Int}{mt:QM}{sites:List Int}{f:Fst}(h:xce X c mt sites=(f,true)):f.cls=c/\f.name=mt.name/\f.ez=X.ez:=by
 unfold xce at h;simp only at h
 split at h
 ·cases h
 ·cases h
  exact⟨rfl,rfl,rfl⟩
theorem xpM {σ:Type}{X:QW}(hX:xaH X=0){E:Env σ}{l:List Fst}(hl:∀ f∈l,xd7 X f)(hq:∀ c n q,E.quick c n=some q->∃ f∈l,f.cls=c/\(∀ mt,xaI X.cz c n=some mt->f.name=mt.name)/\q=(f.code,f.temps)):xrA X E:=by
 intro c n q mt he hm;obtain⟨f,hf,hc,hn,rfl⟩:=hq c n q he;obtain⟨c',k',mt',sites,hm',hfm⟩:=hl f hf;obtain⟨n1,n2,-⟩:=xlm hfm;obtain rfl:c'=c:=by rw[← hc,n1]
 obtain rfl:mt'=mt:=xiT hX hm' hm (by rw[← n2];exact hn mt hm)
 exact⟨sites,by rw[hfm],by rw[hfm]⟩
theorem xig {X:QW}{c k:Int}{sites:List Int}{f:Fst}(h:xch X c k sites=(f,true)):xd7 X f:=by
 unfold xch at h
 cases hm:xaI X.cz c k with
 | none=>rw[hm] at h;cases h
 | some mt=>rw[hm] at h;exact⟨c,k,mt,sites,hm,h⟩
def xb6 (X:QW)(fuel:Int)(qk:Int->Int->Option (List QI × Int)):Env Unit:=⟨X.cz,fuel,fun _ _ c name=>((),xaB X.cz c name),qk⟩
def runF (X:QW)(qk:Int->Int->Option (List QI × Int))(s:QV)(name:ByteArray)(args:List QV)(fuel:Int):Mc Unit × QV × Int:=
 xa4 (xb6 X fuel qk) 20 ⟨X.heap,0,0,()⟩ (xaB X.cz (xas X.heap s) name).1 (xaB X.cz (xas X.heap s) name).2 s args
theorem xnt (X:QW)(fuel:Int)(qk:Int->Int->Option (List QI × Int)):Like X.cz (xb6 X fuel qk) (xe1 X fuel):=⟨rfl,rfl,rfl,fun _ _ _ _=>rfl,fun _ _ _ _=>rfl⟩
theorem xmq {X:QW}(hX:xaH X=0){fuel:Int}{qk:Int->Int->Option (List QI × Int)}(hk:xrA X (xb6 X fuel qk))(s:QV)(name:ByteArray)(args:List QV):runF X qk s name args fuel=xlQ X s name args fuel:=
 xkH hX (xnt X fuel qk) rfl hk 20 _ _ _ _ _ ⟨by simp,by simp⟩
theorem xiH {cs:List QC}{leaf:QM}(hc:CodeOk cs leaf.code)(h13:∀ x∈leaf.code,x.op≠13)(self args temps first behind:Int):CodeOk cs (leaf.code.map (xay self args temps first behind)):=by
 intro y hy;obtain⟨x,hx,rfl⟩:=List.mem_map.1 hy;have hxo:=hc x hx;have h:=h13 x hx;unfold xay
 split
 ·simp
 ·split
  ·simp
  ·split
   ·rename_i o;simp;omega
   ·split
    ·simp
    ·split
     ·simp
     ·split
      ·rename_i o;simp;omega
      ·split
       ·simp
       ·exact hxo
theorem CodeOk.append {cs:List QC}{a b:List QI}(ha:CodeOk cs a)(hb:CodeOk cs b):CodeOk cs (a++b):=fun x hx=>by
 rcases List.mem_append.1 hx with h | h
 ·exact ha x h
 ·exact hb x h
theorem xmg {cs:List QC}{l:List QI}(h:∀ x∈l,x.op≠5/\x.op≠13):CodeOk cs l:=fun x hx=>⟨fun e=>absurd e (h x hx).1,fun e=>absurd e (h x hx).2⟩
theorem xir {cs:List QC}{leaf:QM}(hc:CodeOk cs leaf.code)(h13:∀ x∈leaf.code,x.op≠13){g:QI}(hg:g.op=18)(self n:Int):CodeOk cs (xbu leaf g self n):=by
 unfold xbu xfy;refine (xmg fun y hy=>?_).append (xiH hc h13 _ _ _ _ _)
 simp only[List.mem_append,List.mem_cons,List.not_mem_nil,or_false] at hy
 rcases hy with ((((h | h) | h) | h) | h)
 ·subst h;omega
 ·subst h;simp
 ·have:=xhy _ _ y h;omega
 ·subst h;simp
 ·have:=xjY _ _ y h;omega
theorem xhk {cs:List QC}{l:List QI}(h:CodeOk cs l){f:QI->QI}(hf:∀ y,¬ (y.op=15\/y.op=16)->f y=y)(ho:∀ y,(f y).op=y.op):CodeOk cs (l.map f):=fun z hz=>by
 obtain⟨y,hy,rfl⟩:=List.mem_map.1 hz
 by_cases hj:y.op=15\/y.op=16
 ·exact⟨fun e=>by rw[ho] at e;omega,fun e=>by rw[ho] at e;omega⟩
 ·rw[hf y hj];exact h y hy
theorem xok (n:Int)(y:QI):(xd8 n y).op=y.op:=by unfold xd8;split<;>rfl
theorem xqG (B:List Int)(y:QI):(xcE B y).op=y.op:=by unfold xcE;split<;>rfl
theorem xgW {X:QW}(hX:xaH X=0){mt:QM}(hm:CodeOk X.cz mt.code){sites:List Int}(B:List Int):∀ k:Nat,CodeOk X.cz (xgk X.cz sites mt B k)
 | 0=>fun x hx=>by simp[xgk] at hx
 | k+1=>by
  have ih:=xgW hX hm (sites:=sites) B k;unfold xgk
  cases hx:mt.code[k]? with
  | none=>exact ih
  | some x=>
   simp only
   cases hw:xdZ X.cz sites mt.code.length (xah X.cz sites mt k).code.length (xah X.cz sites mt k).temps k x with
   | none=>
    simp only;refine ih.append fun y hy=>?_
    simp only[List.mem_cons,List.not_mem_nil,or_false] at hy;subst hy
    have h1:CodeOk X.cz [xbh x (k:Int)]:=fun z hz=>by
     simp only[List.mem_cons,List.not_mem_nil,or_false] at hz;subst hz;have:=hm x (List.mem_of_getElem? hx);unfold xbh
     split
     ·rename_i o;simp;omega
     ·exact this
    exact xhk h1 (f:=xcE B) (fun y hy=>by unfold xcE;exact if_neg hy) (xqG B) _ (by simp)
   | some leaf=>
    simp only
    have hst:xa3 X.cz sites k x=some leaf:=by
     unfold xdZ at hw
     split at hw
     ·cases hw
     ·rename_i l hl'
      split at hw
      ·cases hw;exact hl'
      ·cases hw
    obtain⟨hs,hax,hlf,ho⟩:=xbv hX hst;obtain⟨-,hops⟩:=xkx hlf
    have hmo:xd5 X.cz (sites.getD k (-1)) x.name=some leaf:=by
     unfold xa3 at hst
     split at hst
     ·split at hst
      ·cases hst
      ·rename_i y hy
       split at hst
       ·cases hst;exact hy
       ·cases hst
     ·cases hst
    exact ih.append (xhk (xir (xdb hX (xeY hmo)) (fun x hx=>(hops x hx).1) rfl _ _) (fun y hy=>xcY hy) (xok _))
theorem xll {X:QW}(hX:xaH X=0){fuel:Int}{qk:Int->Int->Option (List QI × Int)}(hk:∀ c n q,qk c n=some q->∃ c' k' mt sites,xaI X.cz c' k'=some mt/\(xce X c' mt sites).2=true/\q=((xce X c' mt sites).1.code,(xce X c' mt sites).1.temps)):EOk (xb6 X fuel qk):=by
 refine⟨fun c n m hm=>xdb hX hm,fun c n q hq=>?_,xei hX⟩
 obtain⟨c',k',mt,sites,hm,h1,rfl⟩:=hk c n q hq;obtain⟨p1,-⟩:=xht hX (xda hX hm) h1
 show CodeOk X.cz (xce X c' mt sites).1.code
 rw[p1]
 exact xgW hX (xdb hX hm) _ _
def xc0 (X:QW)(p:Fst->Bool)(l:List Fst)(c n:Int):Option (List QI × Int):=match xaI X.cz c n with
 | none=>none
 | some mt=>(l.find? fun f=>decide (f.cls=c) && eqN f.name mt.name && p f).map fun f=>(f.code,f.temps)
theorem xet {X:QW}{p:Fst->Bool}{l:List Fst}{c n:Int}{q:List QI × Int}(h:xc0 X p l c n=some q):∃ f∈l,f.cls=c/\(∀ mt,xaI X.cz c n=some mt->f.name=mt.name)/\p f=true/\q=(f.code,f.temps):=by
 unfold xc0 at h
 cases hm:xaI X.cz c n with
 | none=>rw[hm] at h;cases h
 | some mt=>
  rw[hm] at h;simp only[Option.map_eq_some_iff] at h;obtain⟨f,hf,rfl⟩:=h;have h1:=List.mem_of_find?_eq_some hf;have h2:=List.find?_some hf;simp only[Bool.and_eq_true,decide_eq_true_eq] at h2;refine⟨f,h1,h2.1.1,fun mt' e=>?_,h2.2,rfl⟩
  cases e
  exact (xpI _ _).1 h2.1.2
theorem xqj {X:QW}(hX:xaH X=0)(p:Fst->Bool){l:List Fst}(hl:∀ f∈l,xd7 X f)(fuel:Int):xrA X (xb6 X fuel (xc0 X p l)):=xpM hX hl fun c n q h=>by
 obtain⟨f,h1,h2,h3,-,h5⟩:=xet h
 exact⟨f,h1,h2,h3,h5⟩
theorem xlT {X:QW}(hX:xaH X=0)(p:Fst->Bool){l:List Fst}(hl:∀ f∈l,xd7 X f)(s:QV)(name:ByteArray)(args:List QV)(fuel:Int):runF X (xc0 X p l) s name args fuel=xlQ X s name args fuel:=xmq hX (xqj hX p hl fuel) s name args
theorem xoU {X:QW}(hX:xaH X=0)(p:Fst->Bool){l:List Fst}(hl:∀ f∈l,p f=true->xd7 X f)(fuel:Int):EOk (xb6 X fuel (xc0 X p l)):=xll hX fun c n q h=>by
 obtain⟨f,h1,-,-,h4,rfl⟩:=xet h;obtain⟨c',k',mt,sites,hm,hf⟩:=hl f h1 h4
 exact⟨c',k',mt,sites,hm,by rw[hf],by rw[hf]⟩
set_option maxRecDepth 8000
structure LkF (X:QW)(l:List Fst)(b b1 b2:Nat)(cv hv fv:Value)(T:Nat->Nat)(w:World)(st:Unit)(n:Nat):Prop where
 lk:LkP X b cv hv T w st n
 pk:LkP X b1 cv hv T w st n
 tag:T b2=0
 lt:b2<w.heap.size
 c0:w.cell? ⟨b2,0,none⟩=some fv
 fs:xdl (Fx T w) w fv l
theorem xeP (X:QW)(l:List Fst)(b b1 b2:Nat)(cv hv fv:Value):Lok (LkF X l b b1 b2 cv hv fv):=
 ⟨fun h e k h0 _=>⟨h.lk.keep e k h0,h.pk.keep e k h0,by rw[e _ h.lt];exact h.tag,qzE h.lt k.size,k.cell h.c0 (by rw[h.tag];exact h0),h.fs.fx xhR e k h0⟩,fun h hn=>⟨(xiR X b cv hv).mono h.lk hn,(xiR X b1 cv hv).mono h.pk hn,h.tag,h.lt,h.c0,h.fs⟩⟩
theorem xlR {α:Type}{p:α->Bool}:∀ {l:List α} {j:Nat} {y:α},l[j]?=some y->p y=true->(∀ i z,i<j->l[i]?=some z->p z=false)->l.find? p=some y
 | [],j,y,h,_,_=>by simp at h
 | a :: l,0,y,h,hy,_=>by simp at h;subst h;simp[hy]
 | a :: l,j+1,y,h,hy,hn=>by
  have ha:=hn 0 a (by omega) rfl
  rw[List.find?_cons_of_neg (by simp[ha])]
  exact xlR (l:=l) (j:=j) (by simpa using h) hy fun i z hi hz=>hn (i+1) z (by omega) (by simpa using hz)
theorem xjU {α:Type}{p:α->Bool}{l:List α}(h:∀ i z,i<l.length->l[i]?=some z->p z=false):l.find? p=none:=by
 rw[List.find?_eq_none];intro z hz;obtain⟨i,hi,rfl⟩:=List.getElem_of_mem hz;have:=h i l[i] hi (by simp[hi])
 simp[this]
structure PkR (Z:World)(b1:Nat)(cv hv:Value)(ep:Int)(wr:World):Prop where
 bel:Below Z.heap.size Z wr
 w0:wr.cell? ⟨b1,0,none⟩=some cv
 w1:wr.cell? ⟨b1,1,none⟩=some hv
 w2:wr.cell? ⟨b1,2,none⟩=some (.int .i64 ep)
 z0:wr.heap[Z.heap.size]?=some (.cells #[.int .i64 0,.string ⟨#[]⟩,.int .i64 0,.int .i64 0,.slice none 0 0] 62 (0,0))
theorem PkR.later {Z:World}{b1:Nat}{cv hv:Value}{ep:Int}{wr w':World}(h:PkR Z b1 cv hv ep wr)(hb:Below wr.heap.size wr w'):PkR Z b1 cv hv ep w':=⟨xaf h.bel hb,qzA hb h.w0,qzA hb h.w1,qzA hb h.w2,xad h.z0 hb⟩
abbrev pT:Fst->Bool:=fun _=>true
theorem xsc {X:QW}{b:Nat}{cv hv:Value}{T:Nat->Nat}{w:World}{n:Nat}(h:LkP X b cv hv T w () n)(s:QS)(c:Int)(name:ByteArray):Calls Try.prog 13 #[SV s,.int .i64 c,.string name,.pointer (some ⟨b,0,none⟩)] w fun e w'=>e=.returned (.tuple #[.int .i64 (xaB X.cz c name).1,.int .i64 (xaB X.cz c name).2])/\Below w.heap.size w w':=by
 have hb1:=xak w (.cells #[.int .i64 s.cls,.string s.name,.int .i64 s.at'] 42);have h1:=h.keep (T':=T) (.refl _ _) (Kp.of_below (S:=fun _=>False) hb1) id
 have hf:=fun w' (hb:Below (w.alloc (.cells #[.int .i64 s.cls,.string s.name,.int .i64 s.at'] 42)).heap.size (w.alloc (.cells #[.int .i64 s.cls,.string s.name,.int .i64 s.at'] 42)) w')=>xit X c name cv hv w' ((h1.cls.mono (Q:=fun _=>True) xaA fun _ _=>trivial).later xaA hb) ((h1.heap.mono (Q:=fun _=>True) xaE fun _ _=>trivial).later xaE hb)
 obtain⟨-,-,w0,w1,w2,hc,hh⟩:=id h1;obtain⟨ac,cc,rfl,-⟩:=id hc;obtain⟨ah,ch,rfl,-⟩:=id hh;clear h h1 hc hh;obtain⟨r1,r2,hr⟩:∃ r1 r2,xaB X.cz c name=(r1,r2):=⟨_,_,rfl⟩;rw[hr] at hf ⊢;clear hr;go_enter Try.func13,Try.ntmps13
 go_upto_region 1 with (fail)
 generalize (w.alloc (.cells #[.int .i64 s.cls,.string s.name,.int .i64 s.at'] 42))=W at *;go_wp2_with fail;refine (hf _ (qzL _ _)).mono ?_;rintro e w2' ⟨rfl,hb2⟩;have HB:=hid (xaf hb1 hb2);clear w0 w1 w2 hf hb2;go_wp2;refine qzK (v:=.tuple #[.int .i64 r1,.int .i64 r2]) ?_ rfl ⟨rfl,HB.out⟩
 simp[results,Try.results13,go_sem]
theorem xsd {X:QW}{l:List Fst}{b b2:Nat}{cv hv fv:Value}{T:Nat->Nat}{w:World}{n:Nat}(h:LkF X l b b b2 cv hv fv T w () n)(c k:Int)(mt:QM)(hm:xaI X.cz c k=some mt) :
  Calls Try.prog 14 #[.int .i64 c,.int .i64 k,.pointer (some ⟨b2,0,none⟩),.pointer (some ⟨b,0,none⟩)] w fun e w'=>(∃ fc fn fe ft av nv cv,e=.returned (.tuple #[FaV fc fn fe ft (.slice av nv cv),.bool (xc0 X (pT) l c k).isSome])/\∀ q,xc0 X (pT) l c k=some q->ft=q.2/\xaR (Fx T w') w' (.slice av nv cv) q.1)/\Below w.heap.size w w':=by
 obtain⟨-,hpk,-,-,f0,hfs⟩:=h;obtain⟨-,-,w0,w1,w2,hc,hh⟩:=id hpk;obtain⟨kc,kn,x,rfl,rfl,hx,hxm⟩:=xfm hm;obtain⟨aC,cc,rfl,hlc,hcc,hbyc,hrowC⟩:=id hc;obtain⟨ah,ch,rfl,-⟩:=id hh;obtain⟨aF,fc,rfl,hlf,hcf,hbyf,hrowF⟩:=id hfs;obtain⟨bC,oC,rfl,-,hxc⟩:=hrowC kc x hx;obtain⟨x0,x1,x2,-,mv,x3,hms⟩:=hxc;obtain⟨aM,cm,rfl,hlm,hcm,hbym,hrowM⟩:=id hms;obtain⟨bM,oM,rfl,-,hmc⟩:=hrowM kn mt hxm;obtain⟨m0,-⟩:=hmc;have hP:Hid (xc0 X (pT) l (kc:Int) (kn:Int)=(l.find? fun f=>decide (f.cls=(kc:Int)) && eqN f.name mt.name && pT f).map fun f=>(f.code,f.temps)):=by show _=_;unfold xc0;rw[hm]
 have hlx:=xae hx;have hlxm:=xae hxm;have hZ:PkR w b (.slice (some ⟨bC,oC,none⟩) X.cz.length cc) (.slice ah X.heap.length ch) X.ez (w.alloc (.cells #[.int .i64 0,.string ⟨#[]⟩,.int .i64 0,.int .i64 0,.slice none 0 0] 62)):=⟨xak _ _,qzA (xak _ _) w0,qzA (xak _ _) w1,qzA (xak _ _) w2,qzJ w _⟩;have q3:=qzA (xak w (.cells #[.int .i64 0,.string ⟨#[]⟩,.int .i64 0,.int .i64 0,.slice none 0 0] 62)) f0;have k1:(kc:Int)<(X.cz.length:Int):=by omega
 have k2:(kn:Int)<(x.mz.length:Int):=by omega
 have k3:(0:Int)<=(kc:Int):=by omega
 have k4:(0:Int)<=(kn:Int):=by omega
 have HF:=hid hfs;simp only[Nat.add_zero] at m0;have HX3:=hid x3;have HM0:=hid m0;clear hm hc hh hfs hrowC hms hrowM x0 x1 x2 x3 m0 f0 w0 w1 w2 hpk;have HRF:=hid hrowF;clear hrowF;unfold maxLen at hcc hcm hcf;go_enter Try.func14,Try.ntmps14
 go_upto_region 1 with (fail)
 have hbZ:=hid hZ;generalize (w.alloc (.cells #[.int .i64 0,.string ⟨#[]⟩,.int .i64 0,.int .i64 0,.slice none 0 0] 62))=W at *;clear hZ;have hlW:(l.length:Int)<=9223372036854775807:=by omega
 go_wp2;clear q3
 go_loopg [12] l.length (fun gk c wr=>∃ j:Nat,j+gk=l.length/\c=.int .i64 j/\PkR w b (.slice (some ⟨bC,oC,none⟩) X.cz.length cc) (.slice ah X.heap.length ch) X.ez wr/\∀ i y,i<j->l[i]?=some y->(decide (y.cls=(kc:Int)) && eqN y.name mt.name && pT y)=false)
 case atStart=>exact⟨0,by omega,rfl,hbZ.out,fun i y hi=>by omega⟩
 case round=>
  clear hbZ;obtain⟨j,hj,rfl,hRr,hok⟩:=hrel;have HO:=hid hok;clear hok
  by_cases hlt:j<l.length
  ·have hx':l[j]?=some l[j]:=by simp[hlt]
   have HX:=hid hx';generalize l[j]=y at *;obtain⟨b',o',rfl,-,y0,y1,y2,y3,yv,y4,hyc⟩:=HRF.out j y hx';obtain⟨ay,cy,rfl,-⟩:=id hyc;simp only[Nat.add_zero] at y0;have u0:=qzA hRr.bel y0;have u1:=qzA hRr.bel y1;have u2:=qzA hRr.bel y2;have u3:=qzA hRr.bel y3;have u4:=qzA hRr.bel y4;have HYC:=hid hyc;clear y0 y1 y2 y3 y4 hx' hyc;have hj1:(j:Int)<(l.length:Int):=by omega
   have hj0:(0:Int)<=(j:Int):=by omega
   have hb5:=xak wr (.cells #[.int .i64 y.cls,.string y.name,.int .i64 y.ez,.int .i64 y.temps,.slice ay y.code.length cy] 62);have hRa:=hRr.later hb5;have hbox:(wr.alloc (.cells #[.int .i64 y.cls,.string y.name,.int .i64 y.ez,.int .i64 y.temps,.slice ay y.code.length cy] 62)).heap[wr.heap.size]?=some (.cells #[.int .i64 y.cls,.string y.name,.int .i64 y.ez,.int .i64 y.temps,.slice ay y.code.length cy] 62 (0,0)):=qzJ wr _
   go_upto_region 4 with (fail)
   generalize (wr.alloc (.cells #[.int .i64 y.cls,.string y.name,.int .i64 y.ez,.int .i64 y.temps,.slice ay y.code.length cy] 62))=V at *;generalize wr.heap.size=bx at *;clear u0 u1 u2 u3 u4 hb5 hRr;obtain⟨hbr,w0',w1',w2',-⟩:=id hRa;have x3':=qzA hbr HX3.out;have m0':=qzA hbr HM0.out
   obtain⟨v0,v1,v2,v3,v4⟩:V.cell? ⟨bx,0,none⟩=some (.int .i64 y.cls)/\V.cell? ⟨bx,1,none⟩=some (.string y.name)/\V.cell? ⟨bx,2,none⟩=some (.int .i64 y.ez)/\V.cell? ⟨bx,3,none⟩=some (.int .i64 y.temps)/\V.cell? ⟨bx,4,none⟩=some (.slice ay y.code.length cy):=by
    refine⟨?_,?_,?_,?_,?_⟩<;>(rw[qzB hbox];rfl)
   by_cases hyes:(decide (y.cls=(kc:Int)) && eqN y.name mt.name)=true
   ·have HFD:Hid (xc0 X pT l (kc:Int) (kn:Int)=some (y.code,y.temps)):=by
     show _=_
     rw[hP.out,xlR HX.out (by rw[hyes];rfl) HO.out]
     rfl
    simp only[Bool.and_eq_true,decide_eq_true_eq,eqN] at hyes;obtain⟨e1,e2⟩:=hyes;have e1':(y.cls == (kc:Int))=true:=by simpa using e1
    have HV:Hid (∀ U:World,Below w.heap.size w U->xaR (Fx T U) U (.slice ay y.code.length cy) y.code):=fun U hU=>(HYC.out.later xa2 hU).mono xa2 fun b hb=>⟨qzE hb.1 hU.size,hb.2⟩
    clear e1
    go_quiet (fail)
    have hq:=below_drewN (qzL V.heap.size V) nq;have hRb:=hRa.later hq;have hbox2:=xad hbox hq;clear hq hRa hbox hbr w0' w1' w2' x3' m0' v0 v1 v2 v3 v4;generalize V.drewN nq=V2 at *
    obtain⟨v0,v1,v2,v3,v4⟩:V2.cell? ⟨bx,0,none⟩=some (.int .i64 y.cls)/\V2.cell? ⟨bx,1,none⟩=some (.string y.name)/\V2.cell? ⟨bx,2,none⟩=some (.int .i64 y.ez)/\V2.cell? ⟨bx,3,none⟩=some (.int .i64 y.temps)/\V2.cell? ⟨bx,4,none⟩=some (.slice ay y.code.length cy):=by
     refine⟨?_,?_,?_,?_,?_⟩<;>(rw[qzB hbox2];rfl)
    obtain⟨hbr,-,-,-,z0'⟩:=id hRb;have zf:=xap z0'
    obtain⟨z1,z2,z3,z4,z5⟩:V2.cell? ⟨w.heap.size,0,none⟩=some (.int .i64 0)/\V2.cell? ⟨w.heap.size,1,none⟩=some (.string ⟨#[]⟩)/\V2.cell? ⟨w.heap.size,2,none⟩=some (.int .i64 0)/\V2.cell? ⟨w.heap.size,3,none⟩=some (.int .i64 0)/\V2.cell? ⟨w.heap.size,4,none⟩=some (.slice none 0 0):=by
     refine⟨?_,?_,?_,?_,?_⟩<;>(rw[qzB z0'];rfl)
    go_wp2;refine qzK (v:=.tuple #[FaV y.cls y.name y.ez y.temps (.slice ay y.code.length cy),.bool true]) ?_ rfl ⟨⟨_,_,_,_,_,_,_,by rw[HFD.out];rfl,fun q hq=>by rw[HFD.out] at hq;cases hq;exact⟨rfl,HV.out _ (((((hbr.setCell (by simp) _).setCell (by simp) _).setCell (by simp) _).setCell (by simp) _).setCell (by simp) _)⟩⟩,((((hbr.setCell (by simp) _).setCell (by simp) _).setCell (by simp) _).setCell (by simp) _).setCell (by simp) _⟩
    simp[results,Try.results14,go_sem,z1,z2,z3,z4,z5]
   ·have hno:(decide (y.cls=(kc:Int)) && eqN y.name mt.name)=false:=by simpa using hyes
    have HN:Hid ((decide (y.cls=(kc:Int)) && eqN y.name mt.name && pT y)=false):=by show _=_;rw[hno];rfl
    have hth:(y.cls == (kc:Int))=false\/((y.cls == (kc:Int))=true/\(y.name.toList == mt.name.toList)=false):=by
     unfold eqN at hno
     cases h1:(y.cls == (kc:Int))
     ·exact .inl rfl
     ·refine .inr ⟨rfl,?_⟩;have h1':y.cls=(kc:Int):=by simpa using h1
      simpa [h1'] using hno
    clear hno hyes;have HRA:=hid hRa;clear hbox v2 v3 v4
    rcases hth with e1 | ⟨e1,e2⟩
    all_goals (
     go_quiet (fail)
     go_wp2
     go_roundg (gk-1)
     case measure=>omega
     case rel=>
      refine⟨j+1,by omega,by go_num,HRA.out.later (below_drewN (qzL _ _) _),fun i y' hi hy=>?_⟩
      by_cases hij:i=j
      ·subst hij;rw[HX.out] at hy;cases hy;exact HN.out
      ·exact HO.out i y' (by omega) hy)
  ·obtain rfl:j=l.length:=by omega
   have HFD:Hid (xc0 X pT l (kc:Int) (kn:Int)=none):=by
    show _=_
    rw[hP.out,xjU HO.out]
    rfl
   obtain⟨hbr,-,-,-,z0'⟩:=id hRr;have zf:=xap z0'
   obtain⟨z1,z2,z3,z4,z5⟩:wr.cell? ⟨w.heap.size,0,none⟩=some (.int .i64 0)/\wr.cell? ⟨w.heap.size,1,none⟩=some (.string ⟨#[]⟩)/\wr.cell? ⟨w.heap.size,2,none⟩=some (.int .i64 0)/\wr.cell? ⟨w.heap.size,3,none⟩=some (.int .i64 0)/\wr.cell? ⟨w.heap.size,4,none⟩=some (.slice none 0 0):=by
    refine⟨?_,?_,?_,?_,?_⟩<;>(rw[qzB z0'];rfl)
   go_wp2;refine qzK (v:=.tuple #[FaV 0 ⟨#[]⟩ 0 0 (.slice none 0 0),.bool false]) ?_ rfl ⟨⟨_,_,_,_,_,_,_,by rw[HFD.out];rfl,fun q hq=>by rw[HFD.out] at hq;cases hq⟩,((((hbr.setCell (by simp) _).setCell (by simp) _).setCell (by simp) _).setCell (by simp) _).setCell (by simp) _⟩
   simp[results,Try.results14,go_sem,z1,z2,z3,z4,z5]
structure PickOkT (X:QW)(l:List Fst):Prop where
 ok:∀ fuel,EOk (xb6 X fuel (xc0 X pT l))
 few:∀ c k q,xc0 X pT l c k=some q->q.1.length<=500/\∀ x∈q.1,x.op=18->0<=x.b/\x.b<=1000
theorem xsI {X:QW}(hX:xaH X=0){fuel:Int}(hf:fuel<=400){l:List Fst}(hl:PickOkT X l)(b b2:Nat)(cv hv fv cv':Value):Cx (⟨xb6 X fuel (xc0 X (pT) l),cv',X.ez,.func (.func 13) #[] #[.pointer (some ⟨b,0,none⟩)],.func (.func 14) #[] #[.pointer (some ⟨b2,0,none⟩),.pointer (some ⟨b,0,none⟩)]⟩:Mp Unit) (LkF X l b b b2 cv hv fv) 13 #[.pointer (some ⟨b,0,none⟩)] 14 #[.pointer (some ⟨b2,0,none⟩),.pointer (some ⟨b,0,none⟩)] where
 lv:=rfl
 qv:=rfl
 lcf:=xmK Try.func13 (by kernel_rfl) (by kernel_rfl)
 qcf:=xmK Try.func14 (by kernel_rfl) (by kernel_rfl)
 ok:=hl.ok fuel
 fuel:=by show fuel<=_;omega
 keep h e k h0 h3:=(xeP X l b b b2 cv hv fv).keep h e k h0 h3
 mono h hn:=(xeP X l b b b2 cv hv fv).mono h hn
 look T w st s c name n h:=(xsc h.lk s c name).mono fun e w' hp=>⟨hp.1,⟨T,.refl _ _,(xeP X l b b b2 cv hv fv).mono ((xeP X l b b b2 cv hv fv).keep (T':=T) h (.refl _ _) (Kp.of_below (S:=fun _=>False) hp.2) id id) (Nat.le_succ n)⟩,Kp.of_below hp.2⟩
 quick T w st c k mt n h hm:=xsd h c k mt hm
 few c k mt hm:=⟨by have:=xna hX hm;omega,fun q h=>hl.few c k q h⟩
theorem xsv {P Q R:Nat->Prop}(X:QW)(hX:xaH X=0)(s:QV)(name:ByteArray)(args:List QV)(fuel:Int){l:List Fst}(hl:PickOkT X l)(r:Ran)(hr:(xh1 (xb6 X fuel (xc0 X (pT) l)) X () s name args fuel).1=r)(cv hv av fv:Value)(w:World)(hC:xai P w cv X.cz)(hH:xaD P w hv X.heap)(hA:xaO Q w av args)(hF:xdl R w fv l)(hn:name.size<=140737488351232)(b b2:Nat)(h1:b<w.heap.size)(f0:w.cell? ⟨b,0,none⟩=some cv)(f1:w.cell? ⟨b,1,none⟩=some hv)(f2:w.cell? ⟨b,2,none⟩=some (.int .i64 X.ez))(h3:b2<w.heap.size)(e0:w.cell? ⟨b2,0,none⟩=some fv) :
  Calls Try.prog 12 #[WV cv hv X.ez,ClV s name av,.int .i64 fuel,.func (.func 13) #[] #[.pointer (some ⟨b,0,none⟩)],.func (.func 14) #[] #[.pointer (some ⟨b2,0,none⟩),.pointer (some ⟨b,0,none⟩)]] w fun e w'=>PlPost w X r e w':=by
 have k3:xai (Fx (fun _=>0) w) w cv X.cz:=(xca hC).keep xaA (Keeps.refl _ _) fun b hb=>⟨hb,rfl⟩
 have k4:xaD (Fx (fun _=>0) w) w hv X.heap:=(xc8 hH).keep xaE (Keeps.refl _ _) fun b hb=>⟨hb,rfl⟩
 have k5:xdl (Fx (fun _=>0) w) w fv l:=by
  obtain⟨ad,cap,q1,q2,q3,q4,q5⟩:=hF;refine⟨ad,cap,q1,q2,q3,q4,fun i x hx=>?_⟩
  obtain⟨bb,o,r1,-,r3,r4,r5,r6,v,r7,r8⟩:=q5 i x hx
  exact⟨bb,o,r1,⟨World.block_lt_of_cell? _ _ r3,rfl⟩,r3,r4,r5,r6,v,r7,(xg3 r8).keep xa2 (Keeps.refl _ _) fun b hb=>⟨hb,rfl⟩⟩
 rw[← hr]
 exact (xoP (T0:=fun _=>0) X hX (xb6 X fuel (xc0 X (pT) l)) () rfl s name args cv hv av w (fun _ _=>.inl rfl) k3 k4 ((xfh hA).keep xa1 (Keeps.refl _ _) fun b hb=>⟨hb,rfl⟩) hn (xeP X l b b b2 cv hv fv) ⟨⟨rfl,h1,f0,f1,f2,k3,k4⟩,⟨rfl,h1,f0,f1,f2,k3,k4⟩,rfl,h3,e0,k5⟩ (fun _ h4 cv'=>xsI hX h4 hl b b2 cv hv fv cv')).mono fun e w' h=>h.plain
theorem xsm {X:QW}(hX:xaH X=0){l:List Fst}(hl:∀ f∈l,xd7 X f)(s:QV)(name:ByteArray)(args:List QV)(fuel:Int):(xh1 (xb6 X fuel (xc0 X (pT) l)) X () s name args fuel).1=xdG X s name args fuel:=by
 rw[← xlv];unfold xh1
 split
 ·rfl
 ·have:xeR (xb6 X fuel (xc0 X (pT) l)) X () s name args=xeR (xe1 X fuel) X () s name args:=xlT hX (pT) hl s name args fuel;rw[this]
def GdB (y:QI):Prop:=y.op=18->0<=y.b/\y.b<=1000
theorem xl7 {X:QW}(h:xaH X=0){sites:List Int}{m:QM}(hm:Sml m):∀ {k:Nat},k<=m.code.length->∀ y∈(xah X.cz sites m k).code,GdB y
 | 0,_,y,hy=>by simp[xah] at hy
 | k+1,hk,y,hy=>by
  have ih:=xl7 h hm (sites:=sites) (k:=k) (by omega)
  have hx:m.code[k]?=some m.code[k]:=List.getElem?_eq_getElem (by omega)
  have hxm:m.code[k]∈m.code:=List.getElem_mem _;rw[xbg hx] at hy;generalize xah X.cz sites m k=s at *;generalize m.code[k]=x at *;obtain⟨p1,p2,-⟩:=hm.plain x hxm;unfold xdA at hy
  cases hw:xdZ X.cz sites m.code.length s.code.length s.temps k x with
  | none=>
   rw[hw] at hy;have hso:(xbh x (k:Int)).op=x.op:=by unfold xbh;split<;>rfl
   rcases List.mem_append.1 hy with h' | h'
   ·exact ih y h'
   ·rw[List.mem_singleton] at h';subst h';intro ho;rw[hso] at ho
    omega
  | some leaf=>
   rw[hw] at hy
   have hst:xa3 X.cz sites k x=some leaf:=by
    unfold xdZ at hw
    split at hw
    ·cases hw
    ·rename_i l hl
     split at hw
     ·cases hw;exact hl
     ·cases hw
   obtain⟨hs,-⟩:=xbv h hst
   rcases List.mem_append.1 hy with h' | h'
   ·exact ih y h'
   ·rcases xg0 hs (ins 18 (sites.getD k (-1)) leaf.args k) s.temps s.code.length (by omega) y h' with rfl | ⟨g1,-⟩
    ·intro _;have:=hs.args
     exact⟨this.1,by show leaf.args<=1000;omega⟩
    ·intro e;exact absurd e g1
theorem xq8 {begins:List Int}{plain code:List QI}(h:∀ y∈code,GdB y):∀ k,∀ y∈xdC begins plain code k,GdB y
 | 0,y,hy=>h y hy
 | k+1,y,hy=>by
  have ih:=xq8 h (begins:=begins) (plain:=plain) k;unfold xdC at hy
  split at hy
  ·split at hy
   ·rcases xhn hy with h' | ⟨z,hz,rfl⟩
    ·exact ih y h'
    ·exact fun e=>ih z (List.mem_of_getElem? hz) e
   ·exact ih y hy
  ·exact ih y hy
theorem xog {X:QW}(hX:xaH X=0){f:Fst}(h:xd7 X f):f.code.length<=500/\∀ x∈f.code,x.op=18->0<=x.b/\x.b<=1000:=by
 obtain⟨c,k,mt,sites,hm,hf⟩:=h;have hs:=xda hX hm;have hok:(xce X c mt sites).2=true:=by rw[hf]
 have hg:=(xnr hX hs hok).1;rw[hf] at hg;refine⟨by simp only at hg;omega,?_⟩
 have hb:=xl7 hX hs (sites:=sites) (qzC mt.code.length);unfold xce at hf;simp only at hf
 split at hf
 ·cases hf
 ·cases hf
  exact fun x hx=>xq8 hb _ x hx
theorem xr6 {X:QW}(hX:xaH X=0){l:List Fst}(hl:∀ f∈l,xd7 X f):PickOkT X l:=
 ⟨fun fuel=>xoU hX pT (fun f h _=>hl f h) fuel,fun c k q h=>by
  obtain⟨f,h1,-,-,-,rfl⟩:=xet h
  exact xog hX (hl f h1)⟩
def xn2 (P:Nat->Prop)(w:World)(X:QW)(name:ByteArray)(super slots:Int)(hv:Value)(e:Ending)(w':World):Prop:=
 (xcM X.cz name super slots≠0/\e=.returned (.tuple #[WV (.slice none 0 0) (.slice none 0 0) 0,.int .i64 0,.int .i64 (xcM X.cz name super slots)])\/
  xcM X.cz name super slots=0/\∃ cv',e=.returned (.tuple #[WV cv' hv X.ez,.int .i64 X.cz.length,.int .i64 0])/\xai (fun b=>P b\/w.heap.size<=b) w' cv' (xpN X name super slots).cz)/\Below w.heap.size w w'
theorem xnE {P:Nat->Prop}(X:QW)(name:ByteArray)(super slots:Int)(cv hv:Value)(w:World)(hn:name.size<=140737488351232)(hh:xai P w cv X.cz)(hH:xaD P w hv X.heap)(ho:xbY X.cz):Calls Try.prog 28 #[WV cv hv X.ez,.string name,.int .i64 super,.int .i64 slots] w fun e w'=>xn2 P w X name super slots hv e w':=by
 obtain⟨ad,cap,rfl,hl,hcap,hby,hrow⟩:=id hh;obtain⟨ah,ch,rfl,-,-,-,-⟩:=id hH;unfold maxLen at hcap;go_enter Try.func28,Try.ntmps28;go_wp2_with fail;refine (xeW name _ hn).mono ?_;rintro e w1 ⟨rfl,hb⟩;have hB:=xaf (xbP _ _ _) hb;have a0:w1.cell? ⟨w.heap.size,0,none⟩=some (Value.slice ad X.cz.length cap):=qzA hb (qzA (xak _ _) (by rw[xaa _ _ _ _ rfl];rfl))
 have a1:w1.cell? ⟨w.heap.size,1,none⟩=some (Value.slice ah X.heap.length ch):=qzA hb (qzA (xak _ _) (by rw[xaa _ _ _ _ rfl];rfl))
 have a2:w1.cell? ⟨w.heap.size,2,none⟩=some (Value.int .i64 X.ez):=qzA hb (qzA (xak _ _) (by rw[xaa _ _ _ _ rfl];rfl))
 have r:w1.heap[w.heap.size+1]?=some (.cells #[Value.slice none 0 0,Value.slice none 0 0,Value.int .i64 0] 25 (0,0)):=by rw[hb.block _ (by simp)];exact xbj _ _ _ (by simp)
 have RC:Hid (∀ W:World,Below w1.heap.size w1 W->(∀ o,W.cell? ⟨w.heap.size+1,o,none⟩=(#[Value.slice none 0 0,Value.slice none 0 0,Value.int .i64 0]:Array Value)[o]?)/\(∀ o,W.frozen? ⟨w.heap.size+1,o,none⟩=false)):=fun W hW=>by
  have hr:W.heap[w.heap.size+1]?=some (.cells #[Value.slice none 0 0,Value.slice none 0 0,Value.int .i64 0] 25 (0,0)):=by rw[hW.block _ (xal r)];exact r
  exact⟨fun o=>by rw[qzB hr],fun o=>by unfold World.frozen?;simp[hr]⟩
 have RB:Hid (∀ W:World,Below w1.heap.size w1 W->(∀ o,W.cell? ⟨w.heap.size,o,none⟩=(#[Value.slice ad X.cz.length cap,Value.slice ah X.heap.length ch,Value.int .i64 X.ez]:Array Value)[o]?)/\(∀ o,W.frozen? ⟨w.heap.size,o,none⟩=false)):=fun W hW=>by
  have r1:w1.heap[w.heap.size]?=some (.cells #[Value.slice ad X.cz.length cap,Value.slice ah X.heap.length ch,Value.int .i64 X.ez] 25 (0,0)):=by rw[hb.block _ (by simp;omega),(xak _ _).block _ (by simp)];exact xbj _ _ _ rfl
  have hr:W.heap[w.heap.size]?=some (.cells #[Value.slice ad X.cz.length cap,Value.slice ah X.heap.length ch,Value.int .i64 X.ez] 25 (0,0)):=by rw[hW.block _ (xal r1)];exact r1
  exact⟨fun o=>by rw[qzB hr],fun o=>by unfold World.frozen?;simp[hr]⟩
 cases hnb:xbr name
 ·have HE:Hid (xcM X.cz name super slots=7):=by show _=_;unfold xcM;rw[if_pos (Or.inl hnb)]
  obtain⟨q0,qf⟩:=RC.out _ (qzL _ _);go_wp2;refine qzK (v:=.tuple #[WV (.slice none 0 0) (.slice none 0 0) 0,.int .i64 0,.int .i64 7]) ?_ rfl ⟨Or.inl ⟨by rw[HE.out];decide,by rw[HE.out]⟩,?_⟩
  ·simp[results,Try.results28,go_sem,q0,qf]
  ·exact ((hB.setCell (by simp) _).setCell (by simp) _).setCell (by simp) _
 ·go_wp2
  go_loopg [21] X.cz.length (fun g i wr=>∃ j:Nat,j+g=X.cz.length/\i=.int .i64 j/\Below w1.heap.size w1 wr/\(∀ i x,i<j->X.cz[i]?=some x->eqN x.name name=false))
  case atStart=>exact⟨0,by omega,rfl,qzL _ _,fun i x h=>by omega⟩
  case round=>
   obtain⟨j,hg,rfl,hbr,hD⟩:=hrel;have HD:Hid (∀ i x,i<j->X.cz[i]?=some x->eqN x.name name=false):=hD;clear hD;have hBr:=xaf hB hbr
   by_cases hj:j<X.cz.length
   ·obtain⟨x,hx⟩:∃ x,X.cz[j]?=some x:=⟨_,List.getElem?_eq_getElem hj⟩;obtain⟨b,o,rfl,-,v0,v1,v2,-,mv,v3,hM⟩:=hrow j x hx;obtain⟨ad2,cap2,rfl,-⟩:=id hM;have HX:Hid (X.cz[j]?=some x):=hx;have hj1:(j:Int)<(X.cz.length:Int):=by omega
    have hj0:(0:Int)<=(j:Int):=by omega
    clear hx;simp only[Nat.add_zero] at v0;replace v0:=qzA hBr v0;replace v1:=qzA hBr v1;replace v2:=qzA hBr v2;replace v3:=qzA hBr v3;have hB2:=xak wr (Obj.cells #[Value.string x.name,Value.int .i64 x.super,Value.int .i64 x.slots,Value.slice ad2 x.mz.length cap2] 52)
    cases he:eqN x.name name
    ·have he':(x.name.toList == name.toList)=false:=he;go_wp2
     go_roundg (gk-1)
     case measure=>omega
     case rel=>
      refine⟨j+1,by omega,by go_num,xaf hbr hB2,fun i y h hy=>?_⟩
      by_cases hij:i=j
      ·subst hij;rw[HX.out] at hy
       cases hy
       exact he
      ·exact HD.out i y (by omega) hy
    ·have he':(x.name.toList == name.toList)=true:=he
     have HE:Hid (xcM X.cz name super slots=7):=by
      show _=_
      unfold xcM;rw[if_pos (Or.inr _)];unfold xi6;rw[xfG HX.out he HD.out]
      simp
     obtain⟨q0,qf⟩:=RC.out _ (xaf hbr hB2);go_wp2;refine qzK (v:=.tuple #[WV (.slice none 0 0) (.slice none 0 0) 0,.int .i64 0,.int .i64 7]) ?_ rfl ⟨Or.inl ⟨by rw[HE.out];decide,by rw[HE.out]⟩,?_⟩
     ·simp[results,Try.results28,go_sem,q0,qf]
     ·exact (((xaf hBr hB2).setCell (by simp) _).setCell (by simp) _).setCell (by simp) _
   ·obtain rfl:j=X.cz.length:=by omega
    have htk:xi6 X.cz name=false:=by
     unfold xi6;rw[xdW fun i y hy=>HD.out i y (xae hy) hy]
     rfl
    have t1:¬ (xbr name=false\/xi6 X.cz name=true):=by rw[hnb,htk];simp
    obtain⟨q0,qf⟩:=RC.out _ hbr;have a0':=qzA hbr a0;have a1':=qzA hbr a1;have a2':=qzA hbr a2
    cases hhas:xgI X.cz.length super
    ·have HE:Hid (xcM X.cz name super slots=6):=by show _=_;unfold xcM;rw[if_neg t1,if_pos hhas]
     have HEND:Hid (∀ W:World,Below w.heap.size w W->xn2 P w X name super slots (.slice ah X.heap.length ch) (.returned (.tuple #[WV (.slice none 0 0) (.slice none 0 0) 0,.int .i64 0,.int .i64 6])) W):=fun W h=>⟨Or.inl ⟨by rw[HE.out];decide,by rw[HE.out]⟩,h⟩
     by_cases h0:super<0
     ·go_wp2;refine qzK (v:=.tuple #[WV (.slice none 0 0) (.slice none 0 0) 0,.int .i64 0,.int .i64 6]) ?_ rfl (HEND.out _ (xbd hBr (by omega) _ _ _))
      simp[results,Try.results28,go_sem,q0,qf]
     ·have h0':decide (super<0)=false:=by simpa using h0
      have h1:(X.cz.length:Int)<=super:=by simp[xgI] at hhas;omega
      go_wp2;refine qzK (v:=.tuple #[WV (.slice none 0 0) (.slice none 0 0) 0,.int .i64 0,.int .i64 6]) ?_ rfl (HEND.out _ (xbd hBr (by omega) _ _ _))
      simp[results,Try.results28,go_sem,q0,qf]
    ·have HE:Hid (xcM X.cz name super slots=if slots<0\/6-xaY X.cz super<slots\/xgY super=true then 3 else if 12<=X.cz.length then 5 else 0):=by show _=_;unfold xcM;rw[if_neg t1,if_neg (by rw[hhas];simp)]
     have h0:(0:Int)<=super:=by simp[xgI] at hhas;omega
     have h1:super<(X.cz.length:Int):=by simp[xgI] at hhas;omega
     have hsl:0<=xaY X.cz super:=(xcD ho (X.cz.length+1) super 0 (by omega)).1
     have hsl6:xaY X.cz super<=0+6*((X.cz.length+1:Nat):Int):=(xcD ho (X.cz.length+1) super 0 (by omega)).2
     have HEND:Hid (xcM X.cz name super slots=3->∀ W:World,Below w.heap.size w W->xn2 P w X name super slots (.slice ah X.heap.length ch) (.returned (.tuple #[WV (.slice none 0 0) (.slice none 0 0) 0,.int .i64 0,.int .i64 3])) W):=fun he W h=>⟨Or.inl ⟨by rw[he];decide,by rw[he]⟩,h⟩
     by_cases s0:slots<0
     ·go_wp2;refine qzK (v:=.tuple #[WV (.slice none 0 0) (.slice none 0 0) 0,.int .i64 0,.int .i64 3]) ?_ rfl (HEND.out (by rw[HE.out,if_pos (Or.inl s0)]) _ (xbd hBr (by omega) _ _ _))
      simp[results,Try.results28,go_sem,q0,qf]
     ·have s0':(0:Int)<=slots:=by omega
      by_cases s6:6<slots
      ·go_wp2;refine qzK (v:=.tuple #[WV (.slice none 0 0) (.slice none 0 0) 0,.int .i64 0,.int .i64 3]) ?_ rfl (HEND.out (by rw[HE.out,if_pos (Or.inr (Or.inl (by omega)))]) _ (xbd hBr (by omega) _ _ _))
       simp[results,Try.results28,go_sem,q0,qf]
      ·have s6':slots<=6:=by omega
       go_wp2_with fail;refine (xcB X super _ _ _ (hh.later xaA hBr) (hH.later xaE hBr) ho).mono ?_;rintro e w4 ⟨rfl,hb4⟩;have hb4':=xaf hbr hb4;replace a0':=qzA hb4 a0';replace a1':=qzA hb4 a1';replace a2':=qzA hb4 a2';replace hBr:=xaf hBr hb4;clear q0 qf;obtain⟨q0,qf⟩:=RC.out _ hb4';clear hb4 hbr;have hwr:IntKind.i64.wrap (slots+xaY X.cz super)=slots+xaY X.cz super:=by rw[IntKind.wrap_i64];omega
       by_cases s1:6<slots+xaY X.cz super
       ·go_wp2;refine qzK (v:=.tuple #[WV (.slice none 0 0) (.slice none 0 0) 0,.int .i64 0,.int .i64 3]) ?_ rfl (HEND.out (by rw[HE.out,if_pos (Or.inr (Or.inl (by omega)))]) _ (xbd hBr (by omega) _ _ _))
        simp[results,Try.results28,go_sem,q0,qf]
       ·have s1':slots+xaY X.cz super<=6:=by omega
        have s1d:decide (6<slots+xaY X.cz super)=false:=by simpa using s1
        cases hpl:xgY super
        ·have hpl':¬ (0<super/\super<4):=by simp[xgY] at hpl;omega
         have hE2:Hid (xcM X.cz name super slots=if 12<=X.cz.length then 5 else 0):=by
          show _=_
          rw[HE.out,if_neg];rintro (h | h | h)
          ·omega
          ·omega
          ·rw[hpl] at h;cases h
         have pd:decide (0<super)=false\/decide (0<super)=true/\decide (super<4)=false:=by
          by_cases h:0<super
          ·right;exact⟨by simpa using h,by simp;omega⟩
          ·left;simpa using h
         by_cases s2:12<=X.cz.length
         ·have s2':(12:Int)<=(X.cz.length:Int):=by omega
          have HEND5:Hid (∀ W:World,Below w.heap.size w W->xn2 P w X name super slots (.slice ah X.heap.length ch) (.returned (.tuple #[WV (.slice none 0 0) (.slice none 0 0) 0,.int .i64 0,.int .i64 5])) W):=fun W h=>⟨Or.inl ⟨by rw[hE2.out,if_pos s2];decide,by rw[hE2.out,if_pos s2]⟩,h⟩
          rcases pd with pd | ⟨pd,pd'⟩
          all_goals
           go_wp2;refine qzK (v:=.tuple #[WV (.slice none 0 0) (.slice none 0 0) 0,.int .i64 0,.int .i64 5]) ?_ rfl (HEND5.out _ (xbd hBr (by omega) _ _ _))
           simp[results,Try.results28,go_sem,q0,qf]
         ·have s2':(X.cz.length:Int)<12:=by omega
          have HE0:Hid (xcM X.cz name super slots=0):=by show _=_;rw[hE2.out,if_neg s2]
          obtain⟨cs,hcs,hsrc⟩:=RowAt.cells hrow xaA;have HSRC:Hid (∀ j u,cs[j]?=some u->∃ a,ad=some a/\w.cell? (a.add j)=some u):=hsrc;obtain⟨i0,hi,hz0,hz1,hz2⟩:=xa8 xr8;have a0x:=fun x=>qzA (xak w4 x) a0'
          have hz4:w.heap.size+1<w4.heap.size:=qzE (xal r) hb4'.size;clear hsrc
          rcases pd with pd | ⟨pd,pd'⟩
          all_goals
           go_wp2_with (first
            | (at_builtin;refine xbl rfl (.tmp 72) (.tmp 74) 22 52 zC 4 56 rfl Try.underlying22 xr8 rfl (by decide) (by decide) w4.heap.size rfl (xbj _ _ _ rfl) ad X.cz.length cap rfl cs hcs.1 (fun j u hu=>by obtain⟨a,e,h⟩:=HSRC.out j u hu;exact⟨a,e,qzA (xaf hBr (xak _ _)) h⟩) hby ?_;intro gA capA wA hownA hgA hgAl hbA)
            | (at_builtin;refine wpList_append_lies _ rfl (.tmp 75) (.tmp 80) 22 rfl w4.heap.size 52 i0 _ 4 56 Try.underlying22 hi hz0 hz1 hz2 rfl (by decide) _ X.cz.length cs rfl (hownA.alloc _) ⟨_,0,none⟩ 1 1 [.string name,.int .i64 super,.int .i64 slots,.slice none 0 0] rfl rfl (fun j u hu=>(by rw[Addr.add_lit,Nat.zero_add];exact (xaa wA _ 52 _ rfl j).trans (by simpa using hu))) (by intro u hu;simp at hu;rcases hu with rfl | rfl | rfl | rfl<;>rfl) (by omega) (by unfold maxLen;omega) (by omega) (by have:=hbA.size;simp at this;simp;omega) _ rfl ?_;intro gg cap2 w2 hown2 hgr hor hlt2;have hbAs:=hbA.size;have hb2:=xcO hownA (by simp at hbAs;omega) hgr;have hW2:Below w4.heap.size w4 w2:=(xaf (xak _ _) hbA).trans hb2;have hR2:=RC.out _ (xaf hb4' hW2);have hB2:=RB.out _ (xaf hb4' hW2);have q0:=hR2.1;have qf:=hR2.2;have c0:=hB2.1;have cf:=hB2.2;clear hR2 hB2))
           have hF:Below w.heap.size w ((((w2.setCell ⟨w.heap.size,0,none⟩ (.slice (some ⟨gg,0,none⟩) (X.cz.length+1) cap2)).setCell ⟨w.heap.size+1,0,none⟩ (.slice (some ⟨gg,0,none⟩) (X.cz.length+1) cap2)).setCell ⟨w.heap.size+1,1,none⟩ (.slice ah X.heap.length ch)).setCell ⟨w.heap.size+1,2,none⟩ (.int .i64 X.ez)):=xbd ((xaf hBr hW2).setCell (qzC _) _) (by omega) _ _ _
           refine qzK (v:=.tuple #[WV (.slice (some ⟨gg,0,none⟩) (X.cz.length+1) cap2) (.slice ah X.heap.length ch) X.ez,.int .i64 X.cz.length,.int .i64 0]) ?_ rfl ⟨Or.inr ⟨HE0.out,_,rfl,?_⟩,hF⟩
           ·simp[results,Try.results28,go_sem,q0,qf,c0,cf]
           ·obtain⟨-,⟨e,h0⟩ | ⟨g,c,cur,e,h1,h2,h3,h4,h5,h6⟩⟩:=hown2
            ·cases h0
            ·cases e
             have hlen:(xpN X name super slots).cz.length=X.cz.length+1:=by simp[xpN]
             have hR:=Cells.row (bytes:=56) (cap:=cap2) (g:=gg) ((hcs.keep xaA (.of_below hF) (Q:=fun b=>P b\/w.heap.size<=b) fun _ h=>Or.inl h).append xaA (xdF (P:=fun b=>P b\/w.heap.size<=b) ⟨name,super,slots,[]⟩ _ hn xbn)) xaA (Or.inr (by omega)) (by rw[xac (by omega),xac (by omega),xac (by omega),xac (by omega)];exact h2) (by simpa using h6) (by simpa using h3) h4 (by simp;omega)
             rw[List.length_append] at hR
             exact hR
        ·have p1:0<super:=by simp[xgY] at hpl;omega
         have p2:super<4:=by simp[xgY] at hpl;omega
         go_wp2;refine qzK (v:=.tuple #[WV (.slice none 0 0) (.slice none 0 0) 0,.int .i64 0,.int .i64 3]) ?_ rfl (HEND.out (by rw[HE.out,if_pos (Or.inr (Or.inr hpl))]) _ (xbd hBr (by omega) _ _ _))
         simp[results,Try.results28,go_sem,q0,qf]
structure InsS where
 ms:List QM
 done:Bool
 was:Bool
def xep (m:QM)(s:InsS)(x:QM):InsS:=
 if eqN x.name m.name=true then ⟨s.ms++[m],true,true⟩
 else if s.done=false/\gtN x.name m.name=true then ⟨s.ms++[m]++[x],true,s.was⟩
 else ⟨s.ms++[x],s.done,s.was⟩
def xph (m:QM)(xs:List QM):InsS:=xs.foldl (xep m) ⟨[],false,false⟩
def xrS (m:QM)(xs:List QM):List QM:=if (xph m xs).done then (xph m xs).ms else (xph m xs).ms++[m]
theorem RisesM.tail {x:QM}{r:List QM}(h:RisesM (x :: r)):RisesM r:=fun i a b ha hb=>h (i+1) a b (by simpa using ha) (by simpa using hb)
theorem RisesM.head {x:QM}:∀ {r:List QM},RisesM (x :: r)->∀ y∈r,ltN x.name y.name=true
 | [],_,y,hy=>by simp at hy
 | z :: r,h,y,hy=>by
  have h1:ltN x.name z.name=true:=h 0 x z rfl rfl
  rcases List.mem_cons.1 hy with rfl | hy
  ·exact h1
  ·exact xgu h1 (RisesM.head h.tail y hy)
theorem xgB {m:QM}:∀ (r:List QM) (s:InsS),s.done=true->(∀ y∈r,ltN m.name y.name=true)->r.foldl (xep m) s=⟨s.ms++r,true,s.was⟩
 | [],s,h,_=>by cases s;simp at h ⊢;exact h
 | x :: r,s,h,hr=>by
  have h1:xep m s x=⟨s.ms++[x],true,s.was⟩:=by
   unfold xep;rw[if_neg (by rw[xeF (hr x (by simp))];simp),if_neg (by simp[h]),h]
  rw[List.foldl_cons,h1,xgB r _ rfl fun y hy=>hr y (by simp[hy])]
  simp
theorem xfO {m:QM}:∀ (r pre:List QM),RisesM r->
  r.foldl (xep m) ⟨pre,false,false⟩=(match r.findIdx? (fun y=>eqN y.name m.name) with
   | some i=>⟨pre++r.set i m,true,true⟩
   | none=>match r.findIdx? (fun y=>gtN y.name m.name) with
    | some i=>⟨pre++(r.take i++[m]++r.drop i),true,false⟩
    | none=>⟨pre++r,false,false⟩)
 | [],pre,_=>by simp
 | x :: r,pre,h=>by
  have hh:=h.head
  cases he:eqN x.name m.name
  ·cases hg:gtN x.name m.name
   ·have h1:xep m ⟨pre,false,false⟩ x=⟨pre++[x],false,false⟩:=by simp[xep,he,hg]
    rw[List.foldl_cons,h1,xfO r _ h.tail];rw[List.findIdx?_cons,List.findIdx?_cons,he,hg]
    cases h2:r.findIdx? (fun y=>eqN y.name m.name) with
    | some i=>simp
    | none=>
     cases h3:r.findIdx? (fun y=>gtN y.name m.name) with
     | some i=>simp
     | none=>simp
   ·have h1:xep m ⟨pre,false,false⟩ x=⟨pre++[m]++[x],true,false⟩:=by simp[xep,he,hg]
    have hm:∀ y∈r,ltN m.name y.name=true:=fun y hy=>xgu (xpB.1 hg) (hh y hy)
    rw[List.foldl_cons,h1,xgB r _ rfl hm];rw[List.findIdx?_cons,List.findIdx?_cons,he,hg]
    have h2:r.findIdx? (fun y=>eqN y.name m.name)=none:=by
     rw[List.findIdx?_eq_none_iff]
     exact fun y hy=>xeF (hm y hy)
    rw[h2]
    simp
  ·have h1:xep m ⟨pre,false,false⟩ x=⟨pre++[m],true,true⟩:=by simp[xep,he]
   have hm:∀ y∈r,ltN m.name y.name=true:=fun y hy=>xrm he (hh y hy)
   rw[List.foldl_cons,h1,xgB r _ rfl hm];rw[List.findIdx?_cons,he]
   simp
theorem xoj {m:QM}{xs:List QM}(h:RisesM xs):(xph m xs).was=decide (0<=xcw xs m.name):=by
 unfold xph xcw xcP;rw[xfO xs [] h]
 cases h2:xs.findIdx? (fun y=>eqN y.name m.name) with
 | some i=>simp
 | none=>cases h3:xs.findIdx? (fun y=>gtN y.name m.name)<;>simp
theorem xnZ {m:QM}{xs:List QM}(h:RisesM xs):xrS m xs=xl4 xs m:=by
 unfold xrS xph xl4 xcw xnK xcP;rw[xfO xs [] h]
 cases h2:xs.findIdx? (fun y=>eqN y.name m.name) with
 | some i=>simp
 | none=>
  cases h3:xs.findIdx? (fun y=>gtN y.name m.name) with
  | some i=>
   have:¬ ((i:Int)<0):=by omega
   simp[this]
  | none=>simp
theorem xcR {wr w2:World}{B:Nat}{X Y:Obj}{a:Option Addr}{e:TypeId}{sz n k:Nat}{xs:List Value}(hown:wr.ownsRow B e sz (.slice a n k) n xs)(hB:B<=wr.heap.size)(hgr:((wr.alloc X).alloc Y).grownBy w2 (Value.ownBlock (.slice a n k))):Below B wr w2:=
 ((qzL B wr).alloc hB X).trans (xcO (hown.alloc X) (by simp;omega) hgr)
theorem xle {wr w2:World}{B:Nat}{X Y:Obj}{a:Option Addr}{e:TypeId}{sz n k:Nat}{xs:List Value}(hown:wr.ownsRow B e sz (.slice a n k) n xs)(hgr:((wr.alloc X).alloc Y).grownBy w2 (Value.ownBlock (.slice a n k))):w2.heap[wr.heap.size]?=some X:=by
 rw[hgr.block wr.heap.size (by simp;omega) ?_,(xak _ _).block _ (by simp)]
 ·exact xbj _ _ _ rfl
 ·obtain⟨-,⟨e,-⟩ | ⟨g,c,cur,e,h1,h2,-⟩⟩:=hown
  ·rw[e];simp[Value.ownBlock]
  ·rw[e];have:=xal h2
   simp[Value.ownBlock]
   omega
theorem xkG {m:QM}:∀ (r:List QM) (s:InsS),(r.foldl (xep m) s).ms.length<=s.ms.length+r.length+(if s.done then 0 else 1)/\((r.foldl (xep m) s).done=false->s.done=false/\(r.foldl (xep m) s).ms.length<=s.ms.length+r.length)
 | [],s=>by simp
 | x :: r,s=>by
  obtain⟨h1,h2⟩:=xkG (m:=m) r (xep m s x);rw[List.foldl_cons]
  cases he:eqN x.name m.name
  ·by_cases hg:s.done=false/\gtN x.name m.name=true
   ·have e:xep m s x=⟨s.ms++[m]++[x],true,s.was⟩:=by simp[xep,he,hg]
    rw[e] at h1 h2 ⊢
    simp[hg.1] at h1 h2 ⊢
    exact⟨by omega,fun h=>by rw[h2] at h;cases h⟩
   ·have e:xep m s x=⟨s.ms++[x],s.done,s.was⟩:=by simp[xep,he,hg]
    rw[e] at h1 h2 ⊢
    simp at h1 h2 ⊢
    exact⟨by omega,fun h=>⟨(h2 h).1,by have:=(h2 h).2;omega⟩⟩
  ·have e:xep m s x=⟨s.ms++[m],true,true⟩:=by simp[xep,he]
   rw[e] at h1 h2 ⊢
   simp at h1 h2 ⊢
   exact⟨by split<;>omega,fun h=>by rw[h2] at h;cases h⟩
theorem xgr {α β:Type}(f:β->α->β)(b:β)(xs:List α)(j:Nat)(x:α)(h:xs[j]?=some x):(xs.take (j+1)).foldl f b=f ((xs.take j).foldl f b) x:=by
 rw[List.take_add_one,h];simp
def xqM (P:Nat->Prop)(w:World)(X:QW)(c:Int)(m:QM)(hv:Value)(e:Ending)(w':World):Prop:=
 (xgI X.cz.length c=false/\e=.returned (.tuple #[WV (.slice none 0 0) (.slice none 0 0) 0,.int .i64 6])\/
  ∃ (k:Nat) (x:QC),c=(k:Int)/\X.cz[k]?=some x/\
   ((xcw x.mz m.name<0/\8<=x.mz.length/\e=.returned (.tuple #[WV (.slice none 0 0) (.slice none 0 0) 0,.int .i64 5]))\/
    (¬ (xcw x.mz m.name<0/\8<=x.mz.length)/\∃ cv',e=.returned (.tuple #[WV cv' hv (xgV X.ez),.int .i64 0])/\xai (fun b=>P b\/w.heap.size<=b) w' cv' (xii X k x m).cz)))/\Below w.heap.size w w'
abbrev In (w:World):Nat->Prop:=fun b=>b<w.heap.size
abbrev InP (P:Nat->Prop)(w:World):Nat->Prop:=fun b=>P b/\b<w.heap.size
theorem xgl {P:Nat->Prop}{w:World}{v:Value}{xs:List QI}(h:xaR P w v xs):xaR (InP P w) w v xs:=by
 obtain⟨ad,cap,h1,h2,h3,h4,h5⟩:=h;refine⟨ad,cap,h1,h2,h3,h4,fun i x hx=>?_⟩
 obtain⟨b,o,e1,e2,e3⟩:=h5 i x hx
 exact⟨b,o,e1,⟨e2,World.block_lt_of_cell? w _ e3.1⟩,e3⟩
theorem xf3 {α:Type}{E:Lay α}{sz bytes:Nat}(G:Good E sz){t:TypeId}{Q:Nat->Prop}{B n k:Nat}{a:Option Addr}{w:World}{cs:List Value}{xs:List α}(hown:w.ownsRow B t sz (.slice a n k) n cs)(hc:Cells E sz Q w cs xs)(hn:xs.length=n)(hQ:∀ b,B<=b->b<w.heap.size->Q b)(hby:n*bytes<=140737488351232):IsRow E sz bytes Q w (.slice a n k) xs:=by
 obtain⟨-,⟨e,h0⟩ | ⟨g,c,cur,e,h1,h2,h3,h4,h5,h6⟩⟩:=hown
 ·cases e
  obtain rfl:=List.eq_nil_of_length_eq_zero hn
  exact xbn
 ·cases e
  subst hn
  exact hc.row G (hQ _ h1 (xal h2)) h2 h6 h3 h4 hby
theorem xeM {t:TypeId}{B sz n k g:Nat}{w:World}{cs:List Value}(hown:w.ownsRow B t sz (.slice (some ⟨g,0,none⟩) n k) n cs){j:Nat}{u:Value}(hj:cs[j]?=some u):w.cell? ⟨g,j,none⟩=some u:=by
 obtain⟨-,⟨e,h0⟩ | ⟨g',c,cur,e,h1,h2,h3,h4,h5,h6⟩⟩:=hown
 ·cases e
 ·cases e
  rw[qzB h2];rw[← h6,List.getElem?_take] at hj
  split at hj
  ·simpa using hj
  ·cases hj
theorem xfC {t:TypeId}{B sz n k g:Nat}{w:World}{cs:List Value}(hown:w.ownsRow B t sz (.slice (some ⟨g,0,none⟩) n k) n cs)(j:Nat):w.frozen? ⟨g,j,none⟩=false:=by
 obtain⟨-,⟨e,h0⟩ | ⟨g',c,cur,e,h1,h2,h3,h4,h5,h6⟩⟩:=hown
 ·cases e
 ·cases e
  unfold World.frozen?;simp[h2]
theorem Cells.setAt {α:Type}{E:Lay α}{sz:Nat}{P:Nat->Prop}{w:World}{cs cs':List Value}{xs:List α}(h:Cells E sz P w cs xs)(G:Good E sz){q:Nat}{y:α}(hq:q<xs.length)(hl:cs'.length=cs.length)(hk:∀ j,(j<q*sz\/(q+1)*sz<=j)->cs'[j]?=cs[j]?)(hy:E P w (fun k=>cs'[q*sz+k]?) y):Cells E sz P w cs' (xs.set q y):=by
 refine⟨by rw[hl,h.1,List.length_set],fun i x hx=>?_⟩
 by_cases hi:i=q
 ·subst hi;rw[List.getElem?_set_self hq] at hx
  cases hx
  exact hy
 ·rw[List.getElem?_set_ne (Ne.symm hi)] at hx;refine G.move (h.2 i x hx) (fun _ h=>h) (.refl _ _) fun k hk' v hv=>?_
  rw[hk]
  ·exact hv
  ·rcases Nat.lt_or_gt_of_ne hi with h' | h'
   ·left
    have:(i+1)*sz<=q*sz:=Nat.mul_le_mul_right _ h';rw[Nat.add_mul] at this
    omega
   ·right
    have:(q+1)*sz<=i*sz:=Nat.mul_le_mul_right _ h'
    omega
structure LayR (P:Nat->Prop)(w W0:World)(m:QM)(s:InsS)(a:Option Addr)(k:Nat)(cs:List Value)(wr:World):Prop where
 bel:Below (w.heap.size+3) W0 wr
 own:wr.ownsRow (w.heap.size+3) 55 5 (.slice a s.ms.length k) s.ms.length cs
 cells:Cells xfx 5 (InP P w) w cs s.ms
theorem xkf {P:Nat->Prop}{w wc wA:World}{X:QW}{m:QM}{q:Nat}{x:QC}{ccs:List Value}{az:Option Addr}{L cap2 gA capA:Nat}{S1 S2 S3 S4 S5:Value}(hx:X.cz[q]?=some x)(hbw:Below w.heap.size w wc)(hA:Below wc.heap.size wc wA)(hgB:wc.heap.size<=gA)(hsz:w.heap.size+3<=wc.heap.size)
  (hownA:wA.ownsRow wc.heap.size 52 4 (.slice (some ⟨gA,0,none⟩) X.cz.length capA) X.cz.length ccs) (HCC:Cells xeC 4 P w ccs X.cz) (hMZ:xbm (fun b=>(P b/\b<w.heap.size\/w.heap.size+3<=b)/\b<wc.heap.size) wc (.slice az L cap2) (xl4 x.mz m)) (hby:X.cz.length*56<=140737488351232) :
  Below w.heap.size w ((((((wA.setCell ⟨w.heap.size,0,none⟩ S1).setCell ⟨gA,q*4+3,none⟩ (.slice az L cap2)).setCell ⟨w.heap.size,2,none⟩ S2).setCell ⟨w.heap.size+1+1,0,none⟩ S3).setCell ⟨w.heap.size+1+1,1,none⟩ S4).setCell ⟨w.heap.size+1+1,2,none⟩ S5)/\
   xai (fun b=>P b\/w.heap.size<=b) ((((((wA.setCell ⟨w.heap.size,0,none⟩ S1).setCell ⟨gA,q*4+3,none⟩ (.slice az L cap2)).setCell ⟨w.heap.size,2,none⟩ S2).setCell ⟨w.heap.size+1+1,0,none⟩ S3).setCell ⟨w.heap.size+1+1,1,none⟩ S4).setCell ⟨w.heap.size+1+1,2,none⟩ S5) (.slice (some ⟨gA,0,none⟩) X.cz.length capA) (xii X q x m).cz:=by
 have hF:Below w.heap.size w ((((((wA.setCell ⟨w.heap.size,0,none⟩ S1).setCell ⟨gA,q*4+3,none⟩ (.slice az L cap2)).setCell ⟨w.heap.size,2,none⟩ S2).setCell ⟨w.heap.size+1+1,0,none⟩ S3).setCell ⟨w.heap.size+1+1,1,none⟩ S4).setCell ⟨w.heap.size+1+1,2,none⟩ S5):=
  xbd ((((xaf hbw hA).setCell (qzC _) _).setCell (by show w.heap.size<=gA;omega) _).setCell (qzC _) _) (by omega) _ _ _
 refine⟨hF,?_⟩
 have hM2:xbm (fun b=>P b\/w.heap.size<=b) ((((((wA.setCell ⟨w.heap.size,0,none⟩ S1).setCell ⟨gA,q*4+3,none⟩ (.slice az L cap2)).setCell ⟨w.heap.size,2,none⟩ S2).setCell ⟨w.heap.size+1+1,0,none⟩ S3).setCell ⟨w.heap.size+1+1,1,none⟩ S4).setCell ⟨w.heap.size+1+1,2,none⟩ S5) (.slice az L cap2) (xl4 x.mz m):=
  hMZ.keep xbq (xaC (xaC (xaC (xaC (xaC (xaC (.of_below hA) (by rintro⟨⟨_,h⟩ | h,_⟩<;>omega) _) (by rintro⟨⟨_,h⟩ | h,_⟩<;>omega) _) (by rintro⟨⟨_,h⟩ | h,_⟩<;>omega) _) (by rintro⟨⟨_,h⟩ | h,_⟩<;>omega) _) (by rintro⟨⟨_,h⟩ | h,_⟩<;>omega) _) (by rintro⟨⟨_,h⟩ | h,_⟩<;>omega) _) fun b hb=>by
   rcases hb.1 with h | h
   ·exact Or.inl h.1
   ·exact Or.inr (by omega)
 have hq:=xae hx;obtain⟨-,⟨e,h0⟩ | ⟨g,c,cur,e,h1,h2,h3,h4,h5,h6⟩⟩:=hownA
 ·cases e
 ·cases e
  have hlen:(xii X q x m).cz.length=X.cz.length:=by simp[xii]
  have hblk:((((((wA.setCell ⟨w.heap.size,0,none⟩ S1).setCell ⟨gA,q*4+3,none⟩ (.slice az L cap2)).setCell ⟨w.heap.size,2,none⟩ S2).setCell ⟨w.heap.size+1+1,0,none⟩ S3).setCell ⟨w.heap.size+1+1,1,none⟩ S4).setCell ⟨w.heap.size+1+1,2,none⟩ S5).heap[gA]?=some (.cells (cur.setIfInBounds (q*4+3) (.slice az L cap2)) 52 (0,0)):=by
   rw[xac (by omega),xac (by omega),xac (by omega),xac (by omega)]
   exact xag (by rw[xac (by omega)];exact h2) _
  have hcs:=HCC.keep xaA (.of_below hF) (Q:=fun b=>P b\/w.heap.size<=b) fun _ h=>Or.inl h
  obtain⟨e0,e1,e2,en,-⟩:=hcs.2 q x hx;have hl3:q*4+3<ccs.length:=by rw[hcs.1];omega
  have hC2:Cells xeC 4 (fun b=>P b\/w.heap.size<=b) ((((((wA.setCell ⟨w.heap.size,0,none⟩ S1).setCell ⟨gA,q*4+3,none⟩ (.slice az L cap2)).setCell ⟨w.heap.size,2,none⟩ S2).setCell ⟨w.heap.size+1+1,0,none⟩ S3).setCell ⟨w.heap.size+1+1,1,none⟩ S4).setCell ⟨w.heap.size+1+1,2,none⟩ S5) (ccs.set (q*4+3) (.slice az L cap2)) (xii X q x m).cz:=by
   refine hcs.setAt xaA hq (by simp) (fun j hj=>List.getElem?_set_ne (by omega)) ⟨?_,?_,?_,en,_,?_,hM2⟩
   ·exact (List.getElem?_set_ne (by omega)).trans e0
   ·exact (List.getElem?_set_ne (by omega)).trans e1
   ·exact (List.getElem?_set_ne (by omega)).trans e2
   ·exact List.getElem?_set_self hl3
  have:=hC2.row (bytes:=56) (cap:=capA) xaA (Or.inr (by omega)) hblk (by rw[hlen,← h6];simp[List.take_set]) (by rw[hlen];exact h3) h4 (by rw[hlen];exact hby)
  rw[hlen] at this
  exact this
theorem xik {P:Nat->Prop}(X:QW)(c:Int)(m:QM)(cv hv mv:Value)(w:World)(hh:xai P w cv X.cz)(hH:xaD P w hv X.heap)(hM:xaR P w mv m.code)(hmn:m.name.size<=140737488351232)(hRC:xiX X.cz):Calls Try.prog 29 #[WV cv hv X.ez,.int .i64 c,MV m mv] w fun e w'=>xqM P w X c m hv e w':=by
 obtain⟨ad,cap,rfl,hl,hcap,hby,hrow⟩:=id hh;obtain⟨ah,ch,rfl,-,-,-,-⟩:=id hH;obtain⟨am,cm,rfl⟩:=hM.get;obtain⟨i0,hi,hz0,hz1,hz2⟩:=xa8 xsk;unfold maxLen at hcap;go_enter Try.func29,Try.ntmps29
 cases hhas:xgI X.cz.length c
 ·have HE:Hid (∀ W:World,Below w.heap.size w W->xqM P w X c m (.slice ah X.heap.length ch) (.returned (.tuple #[WV (.slice none 0 0) (.slice none 0 0) 0,.int .i64 6])) W):=fun W h=>⟨Or.inl ⟨hhas,rfl⟩,h⟩
  by_cases h0:c<0
  ·go_wp2;refine qzK (v:=.tuple #[WV (.slice none 0 0) (.slice none 0 0) 0,.int .i64 6]) ?_ rfl (HE.out _ ?_)
   ·simp[results,Try.results29,go_sem]
   ·first | exact xfL _ _ _ _ | exact xbd (xfL _ _ _ _) (by omega) _ _ _
  ·have h0':decide (c<0)=false:=by simpa using h0
   have h1:(X.cz.length:Int)<=c:=by simp[xgI] at hhas;omega
   go_wp2;refine qzK (v:=.tuple #[WV (.slice none 0 0) (.slice none 0 0) 0,.int .i64 6]) ?_ rfl (HE.out _ ?_)
   ·simp[results,Try.results29,go_sem]
   ·first | exact xfL _ _ _ _ | exact xbd (xfL _ _ _ _) (by omega) _ _ _
 ·have h0:(0:Int)<=c:=by simp[xgI] at hhas;omega
  obtain⟨q,rfl⟩:=Int.eq_ofNat_of_zero_le h0;have hq:q<X.cz.length:=by simp[xgI] at hhas;omega
  have h1:(q:Int)<(X.cz.length:Int):=by omega
  obtain⟨x,hx⟩:∃ x,X.cz[q]?=some x:=⟨_,List.getElem?_eq_getElem hq⟩;obtain⟨b,o,rfl,-,v0,v1,v2,-,sv,v3,hms⟩:=hrow q x hx;obtain⟨am2,km,rfl,hlm,hkm,hbm,hrm⟩:=id hms;unfold maxLen at hkm;have HX:Hid (X.cz[q]?=some x):=hx;have hRM:RisesM x.mz:=hRC q x hx;have HROW:Hid (RowAt xeC 4 P w (some ⟨b,o,none⟩) X.cz):=hrow;clear hx hhas hrow;have v3x:=fun x1 x2 x3=>qzA (xfL w x1 x2 x3) v3
  go_wp2;generalize hW0:((w.alloc (Obj.cells #[Value.slice (some ⟨b,o,none⟩) X.cz.length cap,Value.slice ah X.heap.length ch,Value.int .i64 X.ez] 25)).alloc (Obj.cells #[Value.string m.name,Value.int .i64 m.args,Value.int .i64 m.temps,Value.int .i64 m.prim,Value.slice am m.code.length cm] 55)).alloc (Obj.cells #[Value.slice none 0 0,Value.slice none 0 0,Value.int .i64 0] 25)=W0 at *;have hBW:Below w.heap.size w W0:=by rw[← hW0];exact xfL _ _ _ _
  have hsW:W0.heap.size=w.heap.size+3:=by rw[← hW0];simp
  have gA:W0.heap[w.heap.size]?=some (.cells #[Value.slice (some ⟨b,o,none⟩) X.cz.length cap,Value.slice ah X.heap.length ch,Value.int .i64 X.ez] 25 (0,0)):=by rw[← hW0,(xbP _ _ _).block _ (by simp)];exact xbj _ _ _ rfl
  have gB:W0.heap[w.heap.size+1]?=some (.cells #[Value.string m.name,Value.int .i64 m.args,Value.int .i64 m.temps,Value.int .i64 m.prim,Value.slice am m.code.length cm] 55 (0,0)):=by rw[← hW0,(xak _ _).block _ (by simp)];exact xbj _ _ _ (by simp)
  have gC:W0.heap[w.heap.size+1+1]?=some (.cells #[Value.slice none 0 0,Value.slice none 0 0,Value.int .i64 0] 25 (0,0)):=by rw[← hW0];exact xbj _ _ _ (by simp)
  clear hW0
  go_loopg [8,9,10,30] x.mz.length (fun g ms dn ws i wr=>∃ (j:Nat) (s:InsS) (a:Option Addr) (k:Nat) (cs:List Value),j+g=x.mz.length/\i=.int .i64 j/\s=(x.mz.take j).foldl (xep m) ⟨[],false,false⟩/\ms=.slice a s.ms.length k/\dn=.bool s.done/\ws=.bool s.was/\LayR P w W0 m s a k cs wr)
  case atStart=>exact⟨0,⟨[],false,false⟩,none,0,[],by omega,rfl,rfl,rfl,rfl,rfl,qzL _ _,⟨by simp,Or.inl ⟨rfl,rfl⟩⟩,.nil⟩
  case round=>
   obtain⟨j,s,a,k,cs,hg,rfl,hs,rfl,rfl,rfl,hL⟩:=hrel;obtain⟨sm,sd,sw⟩:=s;have HS:Hid (InsS.mk sm sd sw=(x.mz.take j).foldl (xep m) ⟨[],false,false⟩):=hs
   have hlen1:sm.length<=j+1:=by
    have:=(xkG (m:=m) (x.mz.take j) ⟨[],false,false⟩).1;rw[← hs] at this
    simp at this
    have h2:=List.length_take_le j x.mz
    simp at h2
    omega
   obtain⟨hbel,hown,hcs⟩:=id hL;have hsz:w.heap.size+3<=wr.heap.size:=by have:=hbel.size;omega
   have hbw:Below w.heap.size w wr:=hBW.trans (hbel.mono (by omega))
   have HCS:Hid (Cells xfx 5 (InP P w) w cs sm):=hcs;clear hs hL hcs;simp only at hown
   by_cases hj:j<x.mz.length
   ·have hj1:(j:Int)<(x.mz.length:Int):=by omega
    have hj0:(0:Int)<=(j:Int):=by omega
    obtain⟨y,hy⟩:∃ y,x.mz[j]?=some y:=⟨_,List.getElem?_eq_getElem hj⟩;obtain⟨b2,o2,rfl,-,p0,p1,p2,p3,hyn,yv,p4,hyc⟩:=hrm j y hy;obtain⟨ay,ky,rfl⟩:=hyc.get;have HY:Hid (InsS.mk sm sd sw=(x.mz.take j).foldl (xep m) ⟨[],false,false⟩->(x.mz.take (j+1)).foldl (xep m) ⟨[],false,false⟩=xep m ⟨sm,sd,sw⟩ y):=fun h=>by rw[xgr _ _ _ _ _ hy,h]
    simp only[Nat.add_zero] at p0;replace p0:=qzA hbw p0;replace p1:=qzA hbw p1;replace p2:=qzA hbw p2;replace p3:=qzA hbw p3;replace p4:=qzA hbw p4;have gB':wr.heap[w.heap.size+1]?=some (.cells #[Value.string m.name,Value.int .i64 m.args,Value.int .i64 m.temps,Value.int .i64 m.prim,Value.slice am m.code.length cm] 55 (0,0)):=by rw[hbel.block _ (by omega)];exact gB
    have mc:∀ z q,(wr.alloc z).cell? ⟨w.heap.size+1,q,none⟩=(#[Value.string m.name,Value.int .i64 m.args,Value.int .i64 m.temps,Value.int .i64 m.prim,Value.slice am m.code.length cm]:Array Value)[q]?:=fun z q=>by rw[(xak wr z).cell (p:=⟨w.heap.size+1,q,none⟩) (by simp;omega),qzB gB']
    have HYC:Hid (xaR (InP P w) w (.slice ay y.code.length ky) y.code):=xgl hyc;clear hy hyc
    cases he:eqN y.name m.name
    ·have he':(y.name.toList == m.name.toList)=false:=he
     cases sd
     ·cases hlt:Op.bytesLess y.name.toList m.name.toList
      ·have hg:gtN y.name m.name=true:=by unfold gtN;rw[hlt,he'];rfl
       go_wp2_with (first
        | (at_builtin;refine wpList_append_lies _ rfl (.tmp 52) (.tmp 54) 50 rfl (w.heap.size+3) 55 i0 _ 5 64 Try.underlying50 hi hz0 hz1 hz2 rfl (by decide) _ sm.length _ rfl ((hown.alloc _).alloc _) ⟨_,0,none⟩ 1 1 [Value.string m.name,Value.int .i64 m.args,Value.int .i64 m.temps,Value.int .i64 m.prim,Value.slice am m.code.length cm] rfl rfl (fun j u hu=>(by rw[Addr.add_lit,Nat.zero_add];exact (xaa (World.alloc wr _) _ 55 _ (by simp) j).trans (by simpa using hu))) (by intro u hu;simp at hu;rcases hu with rfl | rfl | rfl | rfl | rfl<;>rfl) (by omega) (by unfold maxLen;omega) (by omega) (by first | (simp;omega) | (have:=hb2.size;simp;omega)) _ rfl ?_;intro gg cap2 w2 hown2 hgr hor hlt2;have hb2:=xcR hown hsz hgr;have hk2:=xle hown hgr;have yc:∀ q,w2.cell? ⟨wr.heap.size,q,none⟩=(#[Value.string y.name,Value.int .i64 y.args,Value.int .i64 y.temps,Value.int .i64 y.prim,Value.slice ay y.code.length ky]:Array Value)[q]?:=(fun q=>by rw[qzB hk2]))
        | (at_builtin;refine wpList_append_lies _ rfl (.tmp 56) (.tmp 58) 50 rfl (w.heap.size+3) 55 i0 _ 5 64 Try.underlying50 hi hz0 hz1 hz2 rfl (by decide) _ (sm.length+1) _ rfl (hown2.alloc _) ⟨_,0,none⟩ 1 1 [Value.string y.name,Value.int .i64 y.args,Value.int .i64 y.temps,Value.int .i64 y.prim,Value.slice ay y.code.length ky] rfl rfl (fun j u hu=>(by rw[Addr.add_lit,Nat.zero_add];exact (xaa w2 _ 55 _ rfl j).trans (by simpa using hu))) (by intro u hu;simp at hu;rcases hu with rfl | rfl | rfl | rfl | rfl<;>rfl) (by omega) (by unfold maxLen;omega) (by omega) (by first | (simp;omega) | (have:=hb2.size;simp;omega)) _ rfl ?_;intro gg3 cap3 w3 hown3 hgr3 hor3 hlt3;have hb3:=xcO hown2 (qzD hsz hb2.size) hgr3))
       go_roundg (gk-1)
       case measure=>omega
       case rel=>
        refine⟨j+1,⟨sm++[m]++[y],true,sw⟩,some ⟨gg3,0,none⟩,cap3,_,by omega,by go_num,?_,by simp,rfl,rfl,hbel.trans (hb2.trans hb3),by simpa using hown3,(HCS.out.append xbq (xcd m _ hmn (xgl hM))).append xbq (xcd y _ hyn HYC.out)⟩
        rw[HY.out HS.out]
        simp[xep,he,hg]
      ·have hg:gtN y.name m.name=false:=by unfold gtN;rw[hlt];rfl
       go_wp2_with (at_builtin;refine wpList_append_lies _ rfl (.tmp 56) (.tmp 58) 50 rfl (w.heap.size+3) 55 i0 _ 5 64 Try.underlying50 hi hz0 hz1 hz2 rfl (by decide) _ sm.length _ rfl ((hown.alloc _).alloc _) ⟨_,0,none⟩ 1 1 [Value.string y.name,Value.int .i64 y.args,Value.int .i64 y.temps,Value.int .i64 y.prim,Value.slice ay y.code.length ky] rfl rfl (fun j u hu=>(by rw[Addr.add_lit,Nat.zero_add];exact (xaa (World.alloc wr _) _ 55 _ (by simp) j).trans (by simpa using hu))) (by intro u hu;simp at hu;rcases hu with rfl | rfl | rfl | rfl | rfl<;>rfl) (by omega) (by unfold maxLen;omega) (by omega) (by first | (simp;omega) | (have:=hb2.size;simp;omega)) _ rfl ?_;intro gg cap2 w2 hown2 hgr hor hlt2;have hb2:=xcR hown hsz hgr)
       go_roundg (gk-1)
       case measure=>omega
       case rel=>
        refine⟨j+1,⟨sm++[y],false,sw⟩,some ⟨gg,0,none⟩,cap2,_,by omega,by go_num,?_,by simp,rfl,rfl,hbel.trans hb2,by simpa using hown2,HCS.out.append xbq (xcd y _ hyn HYC.out)⟩
        rw[HY.out HS.out]
        simp[xep,he,hg]
     ·go_wp2_with (at_builtin;refine wpList_append_lies _ rfl (.tmp 56) (.tmp 58) 50 rfl (w.heap.size+3) 55 i0 _ 5 64 Try.underlying50 hi hz0 hz1 hz2 rfl (by decide) _ sm.length _ rfl ((hown.alloc _).alloc _) ⟨_,0,none⟩ 1 1 [Value.string y.name,Value.int .i64 y.args,Value.int .i64 y.temps,Value.int .i64 y.prim,Value.slice ay y.code.length ky] rfl rfl (fun j u hu=>(by rw[Addr.add_lit,Nat.zero_add];exact (xaa (World.alloc wr _) _ 55 _ (by simp) j).trans (by simpa using hu))) (by intro u hu;simp at hu;rcases hu with rfl | rfl | rfl | rfl | rfl<;>rfl) (by omega) (by unfold maxLen;omega) (by omega) (by first | (simp;omega) | (have:=hb2.size;simp;omega)) _ rfl ?_;intro gg cap2 w2 hown2 hgr hor hlt2;have hb2:=xcR hown hsz hgr)
      go_roundg (gk-1)
      case measure=>omega
      case rel=>
       refine⟨j+1,⟨sm++[y],true,sw⟩,some ⟨gg,0,none⟩,cap2,_,by omega,by go_num,?_,by simp,rfl,rfl,hbel.trans hb2,by simpa using hown2,HCS.out.append xbq (xcd y _ hyn HYC.out)⟩
       rw[HY.out HS.out]
       simp[xep,he]
    ·have he':(y.name.toList == m.name.toList)=true:=he
     go_wp2_with (at_builtin;refine wpList_append_lies _ rfl (.tmp 39) (.tmp 41) 50 rfl (w.heap.size+3) 55 i0 _ 5 64 Try.underlying50 hi hz0 hz1 hz2 rfl (by decide) _ sm.length cs rfl ((hown.alloc _).alloc _) ⟨_,0,none⟩ 1 1 [Value.string m.name,Value.int .i64 m.args,Value.int .i64 m.temps,Value.int .i64 m.prim,Value.slice am m.code.length cm] rfl rfl (fun j u hu=>(by rw[Addr.add_lit,Nat.zero_add];exact (xaa (World.alloc wr _) _ 55 _ (by simp) j).trans (by simpa using hu))) (by intro u hu;simp at hu;rcases hu with rfl | rfl | rfl | rfl | rfl<;>rfl) (by omega) (by unfold maxLen;omega) (by omega) (by simp;omega) _ rfl ?_;intro gg cap2 w2 hown2 hgr hor hlt2;have hb2:=xcR hown hsz hgr)
     go_roundg (gk-1)
     case measure=>omega
     case rel=>
      refine⟨j+1,⟨sm++[m],true,true⟩,some ⟨gg,0,none⟩,cap2,_,by omega,by go_num,?_,by simp,rfl,rfl,hbel.trans hb2,by simpa using hown2,HCS.out.append xbq (xcd m _ hmn (xgl hM))⟩
      rw[HY.out HS.out]
      simp[xep,he]
   ·obtain rfl:j=x.mz.length:=by omega
    have hF:Hid (xph m x.mz=⟨sm,sd,sw⟩):=by show _=_;unfold xph;rw[HS.out,List.take_length]
    have hsw:Hid (sw=decide (0<=xcw x.mz m.name)):=by show _=_;rw[← xoj hRM,hF.out]
    have hlI:xl4 x.mz m=if sd then sm else sm++[m]:=by rw[← xnZ hRM];unfold xrS;rw[hF.out]
    have hj1:(x.mz.length:Int)<=(x.mz.length:Int):=by omega
    have gA':wr.heap[w.heap.size]?=some (.cells #[Value.slice (some ⟨b,o,none⟩) X.cz.length cap,Value.slice ah X.heap.length ch,Value.int .i64 X.ez] 25 (0,0)):=by rw[hbel.block _ (by omega)];exact gA
    have gB':wr.heap[w.heap.size+1]?=some (.cells #[Value.string m.name,Value.int .i64 m.args,Value.int .i64 m.temps,Value.int .i64 m.prim,Value.slice am m.code.length cm] 55 (0,0)):=by rw[hbel.block _ (by omega)];exact gB
    have mc:∀ q,wr.cell? ⟨w.heap.size+1,q,none⟩=(#[Value.string m.name,Value.int .i64 m.args,Value.int .i64 m.temps,Value.int .i64 m.prim,Value.slice am m.code.length cm]:Array Value)[q]?:=fun q=>by rw[qzB gB']
    go_upto_if 62 with (fail)
    go_cut [8] (fun ms wz=>∃ (L cap2:Nat) (az:Option Addr) (csz:List Value),ms=.slice az L cap2/\Below (w.heap.size+3) W0 wz/\wz.ownsRow (w.heap.size+3) 55 5 (.slice az L cap2) L csz/\Cells xfx 5 (InP P w) w csz (xl4 x.mz m)/\L=(xl4 x.mz m).length)
    case first=>
     cases sd
     ·simp only[Bool.false_eq_true,if_false] at hlI
      go_wp2_with (at_builtin;refine wpList_append_lies _ rfl (.tmp 63) (.tmp 65) 50 rfl (w.heap.size+3) 55 i0 _ 5 64 Try.underlying50 hi hz0 hz1 hz2 rfl (by decide) _ sm.length cs rfl (hown.alloc _) ⟨_,0,none⟩ 1 1 [Value.string m.name,Value.int .i64 m.args,Value.int .i64 m.temps,Value.int .i64 m.prim,Value.slice am m.code.length cm] rfl rfl (fun j u hu=>(by rw[Addr.add_lit,Nat.zero_add];exact (xaa wr _ 55 _ rfl j).trans (by simpa using hu))) (by intro u hu;simp at hu;rcases hu with rfl | rfl | rfl | rfl | rfl<;>rfl) (by omega) (by unfold maxLen;omega) (by omega) (by simp;omega) _ rfl ?_;intro gg cap2 w2 hown2 hgr hor hlt2;have hb2:=xcO hown hsz hgr)
      go_meet
      case rel=>exact⟨_,_,_,_,rfl,hbel.trans hb2,hown2,by rw[hlI];exact HCS.out.append xbq (xcd m _ hmn (xgl hM)),by rw[hlI];simp⟩
     ·simp only[if_true] at hlI;go_wp2_with fail
      go_meet
      case rel=>exact⟨_,_,_,_,rfl,hbel,hown,by rw[hlI];exact HCS.out,by rw[hlI]⟩
    case rest=>
     obtain⟨L,cap2,az,csz,rfl,hbz,hownz,hcz,hL⟩:=hcut;clear gA' gB' mc hown hbel hbw hsz HCS;have hsz:w.heap.size+3<=wc.heap.size:=by have:=hbz.size;omega
     have hbw:Below w.heap.size w wc:=hBW.trans (hbz.mono (by omega))
     have gA':wc.heap[w.heap.size]?=some (.cells #[Value.slice (some ⟨b,o,none⟩) X.cz.length cap,Value.slice ah X.heap.length ch,Value.int .i64 X.ez] 25 (0,0)):=by rw[hbz.block _ (by omega)];exact gA
     have gC':wc.heap[w.heap.size+1+1]?=some (.cells #[Value.slice none 0 0,Value.slice none 0 0,Value.int .i64 0] 25 (0,0)):=by rw[hbz.block _ (by omega)];exact gC
     have ac:∀ q,wc.cell? ⟨w.heap.size,q,none⟩=(#[Value.slice (some ⟨b,o,none⟩) X.cz.length cap,Value.slice ah X.heap.length ch,Value.int .i64 X.ez]:Array Value)[q]?:=fun q=>by rw[qzB gA']
     have rc:∀ q,wc.cell? ⟨w.heap.size+1+1,q,none⟩=(#[Value.slice none 0 0,Value.slice none 0 0,Value.int .i64 0]:Array Value)[q]?:=fun q=>by rw[qzB gC']
     have rf:∀ q,wc.frozen? ⟨w.heap.size+1+1,q,none⟩=false:=fun q=>by unfold World.frozen?;simp[gC']
     have v3':=qzA hbw v3
     by_cases hmany:xcw x.mz m.name<0/\8<=x.mz.length
     ·have hsw':sw=false:=by rw[hsw.out];simpa using hmany.1
      subst hsw';have h8:(8:Int)<=(x.mz.length:Int):=by omega
      have HE:Hid (∀ W:World,Below w.heap.size w W->xqM P w X (q:Int) m (.slice ah X.heap.length ch) (.returned (.tuple #[WV (.slice none 0 0) (.slice none 0 0) 0,.int .i64 5])) W):=fun W h=>⟨Or.inr ⟨q,x,rfl,HX.out,Or.inl ⟨hmany.1,hmany.2,rfl⟩⟩,h⟩
      clear hsw;go_wp2;refine qzK (v:=.tuple #[WV (.slice none 0 0) (.slice none 0 0) 0,.int .i64 5]) ?_ rfl (HE.out _ (xbd hbw (by omega) _ _ _))
      simp[results,Try.results29,go_sem,rc,rf]
     ·have HN:Hid (¬ (xcw x.mz m.name<0/\8<=x.mz.length)):=hmany
      have hLlen:L*64<=140737488351232:=by
       rw[hL];unfold xl4
       split
       ·rw[List.length_set];omega
       ·have:x.mz.length<8:=by omega
        simp
        omega
      obtain⟨ccs,hcs,hsrc⟩:=RowAt.cells HROW.out xaA;have HCC:Hid (Cells xeC 4 P w ccs X.cz):=hcs;have HSRC:Hid (∀ j u,ccs[j]?=some u->∃ a,some (⟨b,o,none⟩:Addr)=some a/\w.cell? (a.add j)=some u):=hsrc;have hcl:=hcs.1
      have hMZ:Hid (xbm (fun b=>(P b/\b<w.heap.size\/w.heap.size+3<=b)/\b<wc.heap.size) wc (.slice az L cap2) (xl4 x.mz m)):=
       xf3 xbq hownz (hcz.keep xbq (.of_below hbw) fun b hb=>⟨Or.inl hb,qzE hb.2 hbw.size⟩) hL.symm (fun b h1 h2=>⟨Or.inr h1,h2⟩) hLlen
      clear hcs hsrc hmany;have acx:=fun x q=>((xak wc x).cell (p:=⟨w.heap.size,q,none⟩) (by simp;omega)).trans (ac q)
      have hgd:sw=false->decide (8<=(x.mz.length:Int))=false:=fun h=>by
       have:=hsw.out;rw[h] at this;have h1:¬ (0<=xcw x.mz m.name):=by simpa using this
       have:=HN.out
       simp
       omega
      obtain⟨u3,hu3⟩:∃ u,ccs[q*4+3]?=some u:=by
       obtain⟨u,hu,-⟩:=xaA.there (HCC.out.2 q x HX.out) 3 (by omega)
       exact⟨u,hu⟩
      have HL:Hid (L=(xl4 x.mz m).length):=hL;have HCU:Hid (ccs[q*4+3]?=some u3):=hu3;have afc:∀ q,wc.frozen? ⟨w.heap.size,q,none⟩=false:=fun q=>by unfold World.frozen?;simp[gA']
      clear hlI hL hsw hu3
      cases hsv:sw
      ·have hgd':=hgd hsv;clear hgd
       go_wp2_with (at_builtin;refine xbl rfl (.tmp 80) (.tmp 82) 22 52 zC 4 56 rfl Try.underlying22 xr8 rfl (by decide) (by decide) wc.heap.size rfl (xbj _ _ _ rfl) (some ⟨b,o,none⟩) X.cz.length cap rfl ccs hcl (fun j u hu=>by obtain⟨a,e,h⟩:=HSRC.out j u hu;exact⟨a,e,qzA (xaf hbw (xak _ _)) h⟩) hby ?_;intro gA capA wA hownA hgA hgAl hbA;have hA:=xaf (xak _ _) hbA;have acA:=(fun q=>(hA.cell (p:=⟨w.heap.size,q,none⟩) (by simp;omega)).trans (ac q));have afA:=(fun q=>(hA.frozen (p:=⟨w.heap.size,q,none⟩) (by simp;omega)).trans (afc q));have rcA:=(fun q=>(hA.cell (p:=⟨w.heap.size+1+1,q,none⟩) (by simp;omega)).trans (rc q));have rfA:=(fun q=>(hA.frozen (p:=⟨w.heap.size+1+1,q,none⟩) (by simp;omega)).trans (rf q));have hgc:=xeM hownA HCU.out;have hgf:=xfC hownA;have hgB:wc.heap.size<=gA:=(by rcases hgA with rfl | h;exact qzC _;simp at h;omega);have hne1:¬ gA=w.heap.size:=(by omega);have hne2:¬ w.heap.size=gA:=(by omega);have hne3:¬ gA=w.heap.size+1+1:=(by omega);have hne4:¬ w.heap.size+1+1=gA:=(by omega))
       obtain⟨hF,hFC⟩:=xkf (S1:=.slice (some ⟨gA,0,none⟩) X.cz.length capA) (S2:=.int .i64 (wrap64 (X.ez+1))) (S3:=.slice (some ⟨gA,0,none⟩) X.cz.length capA) (S4:=.slice ah X.heap.length ch) (S5:=.int .i64 (wrap64 (X.ez+1))) HX.out hbw hA hgB hsz hownA HCC.out hMZ.out hby;refine qzK (v:=.tuple #[WV (.slice (some ⟨gA,0,none⟩) X.cz.length capA) (.slice ah X.heap.length ch) (xgV X.ez),.int .i64 0]) ?_ rfl ⟨Or.inr ⟨q,x,rfl,HX.out,Or.inr ⟨HN.out,_,rfl,hFC⟩⟩,hF⟩
       simp[results,Try.results29,go_sem,rcA,rfA,acA,afA,hne1,hne2,hne3,hne4,xgV]
      ·clear hgd
       go_wp2_with (at_builtin;refine xbl rfl (.tmp 80) (.tmp 82) 22 52 zC 4 56 rfl Try.underlying22 xr8 rfl (by decide) (by decide) wc.heap.size rfl (xbj _ _ _ rfl) (some ⟨b,o,none⟩) X.cz.length cap rfl ccs hcl (fun j u hu=>by obtain⟨a,e,h⟩:=HSRC.out j u hu;exact⟨a,e,qzA (xaf hbw (xak _ _)) h⟩) hby ?_;intro gA capA wA hownA hgA hgAl hbA;have hA:=xaf (xak _ _) hbA;have acA:=(fun q=>(hA.cell (p:=⟨w.heap.size,q,none⟩) (by simp;omega)).trans (ac q));have afA:=(fun q=>(hA.frozen (p:=⟨w.heap.size,q,none⟩) (by simp;omega)).trans (afc q));have rcA:=(fun q=>(hA.cell (p:=⟨w.heap.size+1+1,q,none⟩) (by simp;omega)).trans (rc q));have rfA:=(fun q=>(hA.frozen (p:=⟨w.heap.size+1+1,q,none⟩) (by simp;omega)).trans (rf q));have hgc:=xeM hownA HCU.out;have hgf:=xfC hownA;have hgB:wc.heap.size<=gA:=(by rcases hgA with rfl | h;exact qzC _;simp at h;omega);have hne1:¬ gA=w.heap.size:=(by omega);have hne2:¬ w.heap.size=gA:=(by omega);have hne3:¬ gA=w.heap.size+1+1:=(by omega);have hne4:¬ w.heap.size+1+1=gA:=(by omega))
       obtain⟨hF,hFC⟩:=xkf (S1:=.slice (some ⟨gA,0,none⟩) X.cz.length capA) (S2:=.int .i64 (wrap64 (X.ez+1))) (S3:=.slice (some ⟨gA,0,none⟩) X.cz.length capA) (S4:=.slice ah X.heap.length ch) (S5:=.int .i64 (wrap64 (X.ez+1))) HX.out hbw hA hgB hsz hownA HCC.out hMZ.out hby;refine qzK (v:=.tuple #[WV (.slice (some ⟨gA,0,none⟩) X.cz.length capA) (.slice ah X.heap.length ch) (xgV X.ez),.int .i64 0]) ?_ rfl ⟨Or.inr ⟨q,x,rfl,HX.out,Or.inr ⟨HN.out,_,rfl,hFC⟩⟩,hF⟩
       simp[results,Try.results29,go_sem,rcA,rfA,acA,afA,hne1,hne2,hne3,hne4,xgV]
end Go.Proofs.Ytdfbgpiikeheiaa
