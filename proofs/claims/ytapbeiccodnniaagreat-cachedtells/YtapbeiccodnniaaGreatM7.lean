/- A part. -/
import Derived.Test.YtapbeiccodnniaaGreatM6
namespace Go.Proofs.YtapbeiccodnniaaGreat
open Go.ChangeShapes Go.WideShapes Go.ChangeAt Go.RowKit
set_option linter.unusedSimpArgs false
set_option linter.unusedVariables false
set_option maxHeartbeats 8000000
set_option maxRecDepth 8000
theorem xeu (w:World)(cs:Array Value)(t:TypeId)(n j:Nat)(hn:w.heap.size=n):(w.alloc (.cells cs t)).frozen? ⟨n,j,none⟩=false:=by
 subst hn;unfold World.frozen?;rw[show (w.alloc (.cells cs t)).heap[(⟨w.heap.size,j,none⟩:Addr).block]?=some (.cells cs t) from qzJ w _]
 simp
def Tight (P:Nat->Prop)(w:World)(v:Value)(ls:List QL):Prop:=∃ a,v=.slice a ls.length ls.length/\(a=none->ls=[])/\xbI P w v ls
theorem Tight.keep {P Q:Nat->Prop}{w w':World}{v:Value}{ls:List QL}(h:Tight P w v ls)(hk:Keeps P w w')(hl:∀ b,P b->Q b):Tight Q w' v ls:=by
 obtain⟨a,h1,h2,h3⟩:=h
 exact⟨a,h1,h2,h3.keep xbq hk hl⟩
def CellT:Lay QE:=fun P w f x=>f 0=some (.int .i64 x.site.cls)/\f 1=some (.string x.site.name)/\f 2=some (.int .i64 x.site.at')/\f 3=some (.int .i64 x.ez)/\f 4=some (.bool x.many)/\∃ v,f 5=some v/\Tight P w v x.lz
theorem xct:Good CellT 6 where
 move h hl hk hf:=by
  obtain⟨h0,h1,h2,h3,h4,v,h5,h6⟩:=h
  exact⟨hf 0 (by omega) _ h0,hf 1 (by omega) _ h1,hf 2 (by omega) _ h2,hf 3 (by omega) _ h3,hf 4 (by omega) _ h4,v,hf 5 (by omega) _ h5,h6.keep hk hl⟩
 there h k hk:=by
  obtain⟨h0,h1,h2,h3,h4,v,h5,a,rfl,-⟩:=h
  match k,hk with
  | 0,_=>exact⟨_,h0,rfl⟩
  | 1,_=>exact⟨_,h1,rfl⟩
  | 2,_=>exact⟨_,h2,rfl⟩
  | 3,_=>exact⟨_,h3,rfl⟩
  | 4,_=>exact⟨_,h4,rfl⟩
  | 5,_=>exact⟨_,h5,rfl⟩
 pos:=by omega
theorem CellT.plain {P:Nat->Prop}{w:World}{f:Nat->Option Value}{x:QE}(h:CellT P w f x):xhq P w f x:=by
 obtain⟨h0,h1,h2,h3,h4,v,h5,a,-,-,h6⟩:=h
 exact⟨h0,h1,h2,h3,h4,v,h5,h6⟩
theorem xcs {P:Nat->Prop}{w:World}{v:Value}{xs:List QE}(h:IsRow CellT 6 0 P w v xs):xbk P w v xs:=by
 obtain⟨ad,cap,h1,h2,h3,h4,h5⟩:=h;refine⟨ad,cap,h1,h2,h3,h4,fun i x hx=>?_⟩
 obtain⟨b,o,e1,e2,e3⟩:=h5 i x hx
 exact⟨b,o,e1,e2,e3.plain⟩
theorem OwnSt.row0 {α:Type}{E:Lay α}{sz:Nat}{t:TypeId}{w:World}{B:Nat}{xs:List α}(h:OwnSt E sz t w B xs xs.length)(G:Good E sz)(hm:xs.length<=maxLen):IsRow E sz 0 (fun b=>B<=b/\b<w.heap.size) w (.slice (some ⟨B,0,none⟩) xs.length xs.length) xs:=by
 obtain⟨⟨cur,h1,h2⟩,h3⟩:=h;refine⟨_,_,rfl,qzC _,hm,by simp,fun i x hx=>⟨B,0,rfl,⟨qzC _,xaf h1⟩,?_⟩⟩
 exact G.move (h3 i x (xae hx) hx) (fun b h=>⟨by omega,h.2⟩) (.refl _ _) fun k _ v hv=>by rw[Nat.zero_add];exact hv
theorem xmQ:(Tryz.prog.info? 70).map (fun i=>(i.zero,i.size,i.bytes))=some (some (.agg #[.int .i64 0,.string ⟨#[]⟩,.int .i64 0,.int .i64 0,.bool false,.slice none 0 0]),6,72):=by kernel_rfl
theorem xjQ (n:Nat)(hb:n*72<=281474976710656):xey 31 70 #[.int .i64 0,.string ⟨#[]⟩,.int .i64 0,.int .i64 0,.bool false,.slice none 0 0] 6 n:=fun w=>xgj Tryz.underlying31 xmQ (by omega) n hb rfl w
structure BoxE (w:World)(b:Nat)(x:QE)(lv:Value):Prop where
 c0:w.cell? ⟨b,0,none⟩=some (.int .i64 x.site.cls)
 c1:w.cell? ⟨b,1,none⟩=some (.string x.site.name)
 c2:w.cell? ⟨b,2,none⟩=some (.int .i64 x.site.at')
 c3:w.cell? ⟨b,3,none⟩=some (.int .i64 x.ez)
 c4:w.cell? ⟨b,4,none⟩=some (.bool x.many)
 c5:w.cell? ⟨b,5,none⟩=some lv
theorem BoxE.later {w w':World}{b:Nat}{x:QE}{lv:Value}(h:BoxE w b x lv)(hb:Below w.heap.size w w'):BoxE w' b x lv:=⟨qzA hb h.c0,qzA hb h.c1,qzA hb h.c2,qzA hb h.c3,qzA hb h.c4,qzA hb h.c5⟩
theorem xgx (w:World)(x:QE)(lv:Value)(t:TypeId):BoxE (w.alloc (.cells #[.int .i64 x.site.cls,.string x.site.name,.int .i64 x.site.at',.int .i64 x.ez,.bool x.many,lv] t)) w.heap.size x lv:=⟨by rw[xaa _ _ _ _ rfl];rfl,by rw[xaa _ _ _ _ rfl];rfl,by rw[xaa _ _ _ _ rfl];rfl,by rw[xaa _ _ _ _ rfl];rfl,by rw[xaa _ _ _ _ rfl];rfl,by rw[xaa _ _ _ _ rfl];rfl⟩
theorem xnu {P:Nat->Prop}{w:World}{g b:Nat}{ls:List QL}(h:xbI P w (.slice (some ⟨g,0,none⟩) ls.length ls.length) ls)(hb:¬ P b)(o:Nat)(u:Value):Tight P (w.setCell ⟨b,o,none⟩ u) (.slice (some ⟨g,0,none⟩) ls.length ls.length) ls:=
 ⟨_,rfl,fun h=>(by cases h),h.keep xbq (Keeps.of_setCell hb _) fun _ h=>h⟩
theorem xdi {P:Nat->Prop}(xs:List QE)(v:Value)(w:World)(hh:xbk P w v xs)(hby:xs.length*72<=281474976710656)(hls:∀ x∈xs,x.lz.length*16<=281474976710656):Calls Tryz.prog 20 #[v] w fun e w'=>∃ g,e=.returned (.slice (some ⟨g,0,none⟩) xs.length xs.length)/\OwnSt CellT 6 70 w' g xs xs.length/\w.heap.size<=g/\Below w.heap.size w w':=by
 obtain⟨ad,cap,rfl,hl,hcap,-,hrow⟩:=hh;have hmk:=xjQ xs.length hby;go_enter Tryz.func20,Tryz.ntmps20;go_wp2
 go_loopg [11] xs.length (fun g c wr=>∃ j:Nat,j+g=xs.length/\c=.int .i64 j/\Below w.heap.size w wr/\OwnSt CellT 6 70 wr w.heap.size xs j/\w.heap.size<wr.heap.size)
 case atStart=>exact⟨0,by omega,rfl,xaj _ _,OwnSt.start _ _ (size_madeCells _ _),by simp⟩
 case round=>
  obtain⟨j,hj,rfl,hbel,hst,hz⟩:=hrel;clear hmk
  by_cases hlt:j<xs.length
  ·obtain⟨b,o,rfl,-,hv0,hv1,hv2,hv3,hv4,sv,hv5,hsl⟩:=hrow j xs[j] (by simp[hlt])
   have hxj:Hid (xs[j]?=some xs[j]):=by show _=_;simp[hlt]
   have hlj:=hls xs[j] (by simp)
   generalize xs[j]=x at *;simp only[Nat.add_zero] at hv0;have u0:=qzA hbel hv0;have u1:=qzA hbel hv1;have u2:=qzA hbel hv2;have u3:=qzA hbel hv3;have u4:=qzA hbel hv4;have u5:=qzA hbel hv5;have hsl2:=hsl.later xbq hbel;obtain⟨ad2,cap2,rfl,-,-,-,-⟩:=id hsl2;clear hv0 hv1 hv2 hv3 hv4 hv5 hsl hrow;have hj1:(j:Int)<(xs.length:Int):=by omega
   have hj0:(0:Int)<=(j:Int):=by omega
   go_wp2_with fail;refine (xgy x.lz _ _ (hsl2.later xbq (xaj _ _)) hlj).mono ?_;rintro e w1 ⟨g,rfl,hown,hg,hb⟩;have hbx:=(xgx wr x (.slice ad2 x.lz.length cap2) 70).later hb;have hst1:=(hst.later xct (xaj _ _)).later xct hb;have hbel1:=xbz hbel hb;have hg0:wr.heap.size<g:=by simp at hg;omega
   have hfz:∀ o,w1.frozen? ⟨wr.heap.size,o,none⟩=false:=fun o=>(hb.frozen (p:=⟨wr.heap.size,o,none⟩) (by simp)).trans (xeu wr _ _ _ _ rfl)
   have hz1:wr.heap.size+1<=w1.heap.size:=by have:=hb.size;simpa using this
   have hbw1:Below wr.heap.size wr w1:=xbz (qzL _ _) hb;have HST:Hid (OwnSt CellT 6 70 (w1.setCell ⟨wr.heap.size,5,none⟩ (.slice (some ⟨g,0,none⟩) x.lz.length x.lz.length)) w.heap.size xs j):=hst.later xct (hbw1.setCell (qzC _) _);have HLN:Hid (Tight (fun b=>b=g) (w1.setCell ⟨wr.heap.size,5,none⟩ (.slice (some ⟨g,0,none⟩) x.lz.length x.lz.length)) (.slice (some ⟨g,0,none⟩) x.lz.length x.lz.length) x.lz):=xnu (hown.isLines (by unfold maxLen;omega) (P:=fun b=>b=g) rfl) (by show ¬ (wr.heap.size=g);omega) _ _
   have HGL:Hid (g<w1.heap.size):=by obtain⟨⟨cur',q1,-⟩,-⟩:=hown;exact xaf q1
   clear hst hsl2 u0 u1 u2 u3 u4 u5 hb hg hbw1 hown;generalize wr.heap.size=TB at *;obtain⟨c0,c1,c2,c3,c4,c5⟩:=hbx;obtain⟨⟨cur,k1,k2⟩,k3⟩:=id hst1;have f1:∀ o,w1.frozen? ⟨w.heap.size,o,none⟩=false:=hst1.unfrozen;have hne1:¬ TB=w.heap.size:=by omega
   have hne2:¬ w.heap.size=TB:=by omega
   have e0:w1.cell? ⟨w.heap.size,j*6,none⟩=some (cur[j*6]'(by omega)):=(by rw[qzB k1];simp)
   have e1:w1.cell? ⟨w.heap.size,j*6+1,none⟩=some (cur[j*6+1]'(by omega)):=(by rw[qzB k1];simp)
   have e2:w1.cell? ⟨w.heap.size,j*6+2,none⟩=some (cur[j*6+2]'(by omega)):=(by rw[qzB k1];simp)
   have e3:w1.cell? ⟨w.heap.size,j*6+3,none⟩=some (cur[j*6+3]'(by omega)):=(by rw[qzB k1];simp)
   have e4:w1.cell? ⟨w.heap.size,j*6+4,none⟩=some (cur[j*6+4]'(by omega)):=(by rw[qzB k1];simp)
   have e5:w1.cell? ⟨w.heap.size,j*6+5,none⟩=some (cur[j*6+5]'(by omega)):=(by rw[qzB k1];simp)
   go_wp2
   go_roundg (gk-1)
   case measure=>omega
   case rel=>
    refine⟨j+1,by omega,by go_num,((((((hbel1.setCell (p:=⟨TB,5,none⟩) (by simp;omega) _).setCell (qzC _) _).setCell (qzC _) _).setCell (qzC _) _).setCell (qzC _) _).setCell (qzC _) _).setCell (qzC _) _,?_,by simp;omega⟩
    refine HST.out.step xct hxj.out (vs:=[.int .i64 x.site.cls,.string x.site.name,.int .i64 x.site.at',.int .i64 x.ez,.bool x.many,.slice (some ⟨g,0,none⟩) x.lz.length x.lz.length]) rfl ?_
    exact⟨rfl,rfl,rfl,rfl,rfl,_,rfl,HLN.out.keep (.refl _ _) fun b h=>⟨by omega,by have:=HGL.out;simp;omega⟩⟩
  ·obtain rfl:j=xs.length:=by omega
   go_wp2
   go_ret
   exact⟨_,rfl,hst,qzC _,hbel⟩
theorem xeq {P:Nat->Prop}(xs:List QE)(v:Value)(s:QS)(w:World)(hh:xbk P w v xs):Calls Tryz.prog 82 #[v,SV s] w fun e w'=>e=.returned (.int .i64 (xbt (fun x:QE=>eqS x.site s) xs))/\Below w.heap.size w w':=by
 have hm:=hmf;go_enter Tryz.func82,Tryz.ntmps82;go_wp2_with fail;refine (xhO _ (fun x:QE=>eqS x.site s) xs v _ (hh.later xbw (xaj _ _)) fun x a n c w' hb=>xjS x a n c _ s w' ((xeS w s 67).later hb)).mono ?_
 rintro e w1 ⟨rfl,hb⟩;go_wp2
 go_ret
 exact⟨rfl,xbz (qzL _ _) hb⟩
theorem xcT {P:Nat->Prop}(xs:List QL)(v:Value)(c:Int)(w:World)(hh:xbI P w v xs):Calls Tryz.prog 83 #[v,.int .i64 c] w fun e w'=>e=.returned (.int .i64 (xbt (fun x:QL=>x.cls == c) xs))/\Below w.heap.size w w':=by
 have hm:=hmf;go_enter Tryz.func83,Tryz.ntmps83;go_wp2_with fail;refine (xij _ (fun x:QL=>x.cls == c) xs v _ (hh.later xbq (xaj _ _)) fun x w' hb=>xhB x _ c w' (qzA hb (by rw[xaa _ _ _ _ rfl];rfl))).mono ?_
 rintro e w1 ⟨rfl,hb⟩;go_wp2
 go_ret
 exact⟨rfl,xbz (qzL _ _) hb⟩
def xen (ls:List QL)(c:Int):Int:=((ls.find? fun y=>y.cls == c).map (·.found)).getD (-1)
def xft (xs:List QE)(s:QS)(ep c:Int):Int:=((xs.find? fun x=>eqS x.site s).map fun x=>if x.ez=ep then xen x.lz c else -1).getD (-1)
theorem xhC {α:Type}{p:α->Bool}{xs:List α}(h:xbt p xs=-1):xs.find? p=none:=by
 rw[List.find?_eq_none];intro x hx;obtain⟨i,hi,rfl⟩:=List.mem_iff_getElem.1 hx;unfold xbt at h
 cases hf:xs.findIdx? p with
 | none=>rw[List.findIdx?_eq_none_iff] at hf;simpa using hf _ hx
 | some k=>rw[hf] at h;simp at h
theorem xkr {α:Type}{p:α->Bool}{xs:List α}{j:Nat}{x:α}(hx:xs[j]?=some x)(hp:p x=true)(hn:∀ i y,i<j->xs[i]?=some y->p y=false):xs.find? p=some x:=by
 induction xs generalizing j with
 | nil=>simp at hx
 | cons y r ih=>
  cases j with
  | zero=>simp at hx;subst hx;simp[hp]
  | succ j=>
   have hy:=hn 0 y (by omega) rfl
   rw[List.find?_cons,hy]
   exact ih (by simpa using hx) (fun i z hi hz=>hn (i+1) z (by omega) (by simpa using hz))
theorem xm5 {P:Nat->Prop}(xs:List QE)(v:Value)(s:QS)(ep c:Int)(w:World)(hh:xbk P w v xs):Calls Tryz.prog 62 #[v,SV s,.int .i64 ep,.int .i64 c] w fun e w'=>e=.returned (.int .i64 (xft xs s ep c))/\Below w.heap.size w w':=by
 obtain⟨ad,cap,rfl,hl,hcap,-,-⟩:=id hh;unfold maxLen at hcap;have hb0:=xaj w (.cells #[.int .i64 s.cls,.string s.name,.int .i64 s.at'] 67)
 rcases xb2 (fun x:QE=>eqS x.site s) xs with hf | ⟨j,x,hf,hx,hp,hn⟩
 ·have HG:Hid (xft xs s ep c=-1):=by show _=_;unfold xft;rw[xhC hf];rfl
  go_enter Tryz.func62,Tryz.ntmps62;go_wp2_with fail;refine (xeq xs _ s _ (hh.later xbw hb0)).mono ?_;rintro e w1 ⟨rfl,hb1⟩;rw[hf];go_wp2
  go_ret
  exact⟨xak HG.out.symm,xbz (qzL _ _) hb1⟩
 ·have hj:=xae hx;have hj0:(0:Int)<=(j:Int):=by omega
  have hj1:(j:Int)<(xs.length:Int):=by omega
  have HG0:Hid (xft xs s ep c=if x.ez=ep then xen x.lz c else -1):=by show _=_;unfold xft;rw[xkr hx hp hn];rfl
  have HX:Hid (xs[j]?=some x):=hx;go_enter Tryz.func62,Tryz.ntmps62;go_wp2_with fail;refine (xeq xs _ s _ (hh.later xbw hb0)).mono ?_;rintro e w1 ⟨rfl,hb1⟩;have hbw:=xbz (qzL _ _) hb1;rw[hf];clear hf hx hp hn hb0 hb1;obtain⟨ad',cap',e',-,-,-,hrow⟩:=hh.later xbw hbw;simp only[Value.slice.injEq] at e';obtain⟨rfl,-,-⟩:=e';obtain⟨b,o,rfl,-,-,-,-,q3,-,lv,q5,ql⟩:=hrow j x HX.out;clear hrow hh
  by_cases he:x.ez=ep
  ·obtain⟨ad2,cap2,rfl,hl2,hcap2,-,hrow2⟩:=id ql;unfold maxLen at hcap2;have HG1:Hid (xft xs s ep c=xen x.lz c):=by show _=_;rw[HG0.out,if_pos he]
   rcases xb2 (fun y:QL=>y.cls == c) x.lz with hf | ⟨q,y,hf,hy,hpy,hny⟩
   ·have HG:Hid (xft xs s ep c=-1):=by show _=_;rw[HG1.out];unfold xen;rw[xhC hf];rfl
    go_wp2_with fail;refine (xcT x.lz _ c _ ql).mono ?_;rintro e w2 ⟨rfl,hb2⟩;rw[hf];go_wp2
    go_ret
    exact⟨xak HG.out.symm,xah hbw hb2⟩
   ·have HG:Hid (xft xs s ep c=y.found):=by show _=_;rw[HG1.out];unfold xen;rw[xkr hy hpy hny];rfl
    have hq:=xae hy;have hq0:(0:Int)<=(q:Int):=by omega
    have hq1:(q:Int)<(x.lz.length:Int):=by omega
    have HY:Hid (x.lz[q]?=some y):=hy;clear hy hpy hny;go_wp2_with fail;refine (xcT x.lz _ c _ ql).mono ?_;rintro e w2 ⟨rfl,hb2⟩;rw[hf];obtain⟨b3,o3,rfl,-,y0,y1⟩:=hrow2 q y HY.out;replace y1:=qzA hb2 y1;replace q5:=qzA hb2 q5;clear hrow2;go_wp2
    go_ret
    exact⟨xak HG.out.symm,xah hbw hb2⟩
  ·have HG:Hid (xft xs s ep c=-1):=by show _=_;rw[HG0.out,if_neg he]
   have hd:(x.ez != ep)=true:=by simpa using he
   go_wp2
   go_ret
   exact⟨xak HG.out.symm,hbw⟩
def xax (x:QE)(y:QL):QE:=if x.many=true\/0<=xbt (fun z:QL=>z.cls == y.cls) x.lz then x else if 3<=x.lz.length then ⟨x.site,x.ez,true,[]⟩ else ⟨x.site,x.ez,x.many,x.lz++[y]⟩
def xpd (P:Nat->Prop)(w:World)(x:QE)(e:Ending)(w':World):Prop:=
 ∃ a n c,e=.returned (EV x (.slice a n c))/\n=x.lz.length/\xbI (fun b=>P b\/w.heap.size<=b) w' (.slice a n c) x.lz/\Below w.heap.size w w'
theorem xnF {w:World}{g cap n:Nat}{ls:List QL}{R:Nat->Prop}{vs:List Value}(h:∃ cur:Array Value,w.heap[g]?=some (.cells cur 72 (0,0))/\cur.size=cap*2/\n+1<=cap/\cap<=maxLen/\Cells xda 2 R w (cur.toList.take ((n+1)*2)) ls/\∀ k v,vs[k]?=some v->w.cell? ⟨g,n*2+k,none⟩=some v)(hn:ls.length=n+1:=by simp):xbI (fun b=>b=g) w (.slice (some ⟨g,0,none⟩) (n+1) cap) ls:=by
 obtain⟨cur,q1,q2,q3,q4,q5,-⟩:=h;have:=Cells.row (E:=xda) (sz:=2) (bytes:=0) (P:=fun b=>b=g) (xs:=ls) (g:=g) (cap:=cap) ⟨q5.1,q5.2⟩ xbq rfl q1 (by rw[hn]) (by omega) q4 (by simp)
 rw[hn] at this
 exact this
theorem xds {P:Nat->Prop}(x:QE)(y:QL)(lv:Value)(w:World)(hh:Tight P w lv x.lz):Calls Tryz.prog 84 #[EV x lv,LV y] w fun e w'=>xpd P w (xax x y) e w':=by
 obtain⟨ad,rfl,hnone,hl⟩:=hh;have hb3:=xfv w (.cells #[.int .i64 x.site.cls,.string x.site.name,.int .i64 x.site.at',.int .i64 x.ez,.bool x.many,.slice ad x.lz.length x.lz.length] 70) (.cells #[.int .i64 y.cls,.int .i64 y.found] 72) (.cells #[.int .i64 0,.string ⟨#[]⟩,.int .i64 0,.int .i64 0,.bool false,.slice none 0 0] 70)
 by_cases hm:x.many=true
 ·have HW:Hid (xax x y=x):=by show _=_;unfold xax;rw[if_pos (Or.inl hm)]
  go_enter Tryz.func84,Tryz.ntmps84;go_wp2;refine qzK (v:=EV x (.slice ad x.lz.length x.lz.length)) ?_ rfl ?_
  ·simp[results,Tryz.results84,go_sem,hm]
  ·rw[HW.out];refine⟨ad,_,_,rfl,rfl,?_,?_⟩
   ·exact (hl.later xbq (xfv _ _ _ _)).mono xbq fun b h=>Or.inl h
   ·exact xfv _ _ _ _
 ·have hm':x.many=false:=by simpa using hm
  clear hm;have hX:=((xgx w x (.slice ad x.lz.length x.lz.length) 70).later (xaj _ (.cells #[.int .i64 y.cls,.int .i64 y.found] 72))).later (xaj _ (.cells #[.int .i64 0,.string ⟨#[]⟩,.int .i64 0,.int .i64 0,.bool false,.slice none 0 0] 70));have hZ:=xgx ((w.alloc (.cells #[.int .i64 x.site.cls,.string x.site.name,.int .i64 x.site.at',.int .i64 x.ez,.bool x.many,.slice ad x.lz.length x.lz.length] 70)).alloc (.cells #[.int .i64 y.cls,.int .i64 y.found] 72)) ⟨⟨0,⟨#[]⟩,0⟩,0,false,[]⟩ (.slice none 0 0) 70;have hzs:((w.alloc (.cells #[.int .i64 x.site.cls,.string x.site.name,.int .i64 x.site.at',.int .i64 x.ez,.bool x.many,.slice ad x.lz.length x.lz.length] 70)).alloc (.cells #[.int .i64 y.cls,.int .i64 y.found] 72)).heap.size=w.heap.size+1+1:=by simp
  rw[hzs] at hZ;have hY0:(((w.alloc (.cells #[.int .i64 x.site.cls,.string x.site.name,.int .i64 x.site.at',.int .i64 x.ez,.bool x.many,.slice ad x.lz.length x.lz.length] 70)).alloc (.cells #[.int .i64 y.cls,.int .i64 y.found] 72)).alloc (.cells #[.int .i64 0,.string ⟨#[]⟩,.int .i64 0,.int .i64 0,.bool false,.slice none 0 0] 70)).cell? ⟨w.heap.size+1,0,none⟩=some (.int .i64 y.cls):=qzA (xaj _ _) (by rw[xaa _ _ _ _ (by simp)];rfl)
  have hY1:(((w.alloc (.cells #[.int .i64 x.site.cls,.string x.site.name,.int .i64 x.site.at',.int .i64 x.ez,.bool x.many,.slice ad x.lz.length x.lz.length] 70)).alloc (.cells #[.int .i64 y.cls,.int .i64 y.found] 72)).alloc (.cells #[.int .i64 0,.string ⟨#[]⟩,.int .i64 0,.int .i64 0,.bool false,.slice none 0 0] 70)).cell? ⟨w.heap.size+1,1,none⟩=some (.int .i64 y.found):=qzA (xaj _ _) (by rw[xaa _ _ _ _ (by simp)];rfl)
  have hF0:∀ o,(((w.alloc (.cells #[.int .i64 x.site.cls,.string x.site.name,.int .i64 x.site.at',.int .i64 x.ez,.bool x.many,.slice ad x.lz.length x.lz.length] 70)).alloc (.cells #[.int .i64 y.cls,.int .i64 y.found] 72)).alloc (.cells #[.int .i64 0,.string ⟨#[]⟩,.int .i64 0,.int .i64 0,.bool false,.slice none 0 0] 70)).frozen? ⟨w.heap.size,o,none⟩=false:=fun o=>((xca _ _ _).frozen (p:=⟨w.heap.size,o,none⟩) (by simp)).trans (xeu w _ _ _ _ rfl)
  have hF2:∀ o,(((w.alloc (.cells #[.int .i64 x.site.cls,.string x.site.name,.int .i64 x.site.at',.int .i64 x.ez,.bool x.many,.slice ad x.lz.length x.lz.length] 70)).alloc (.cells #[.int .i64 y.cls,.int .i64 y.found] 72)).alloc (.cells #[.int .i64 0,.string ⟨#[]⟩,.int .i64 0,.int .i64 0,.bool false,.slice none 0 0] 70)).frozen? ⟨w.heap.size+1+1,o,none⟩=false:=fun o=>xeu _ _ _ _ _ hzs
  have hl3:=hl.later xbq hb3;have hz3:(((w.alloc (.cells #[.int .i64 x.site.cls,.string x.site.name,.int .i64 x.site.at',.int .i64 x.ez,.bool x.many,.slice ad x.lz.length x.lz.length] 70)).alloc (.cells #[.int .i64 y.cls,.int .i64 y.found] 72)).alloc (.cells #[.int .i64 0,.string ⟨#[]⟩,.int .i64 0,.int .i64 0,.bool false,.slice none 0 0] 70)).heap.size=w.heap.size+3:=by simp
  rw[hm'] at hb3 hX hZ hY0 hY1 hF0 hF2 hl3 hz3;go_enter Tryz.func84,Tryz.ntmps84
  go_upto_region 1 with (fail)
  generalize (((w.alloc (.cells #[.int .i64 x.site.cls,.string x.site.name,.int .i64 x.site.at',.int .i64 x.ez,.bool false,.slice ad x.lz.length x.lz.length] 70)).alloc (.cells #[.int .i64 y.cls,.int .i64 y.found] 72)).alloc (.cells #[.int .i64 0,.string ⟨#[]⟩,.int .i64 0,.int .i64 0,.bool false,.slice none 0 0] 70))=W3 at *;have hne02:¬ w.heap.size=w.heap.size+1+1:=by omega
  have hne20:¬ w.heap.size+1+1=w.heap.size:=by omega
  have hLast:∀ {w1:World} {u0 u1 u2 u3 u4 u5:Value},Below W3.heap.size W3 w1->Below w.heap.size w ((((((w1.setCell ⟨w.heap.size+1+1,0,none⟩ u0).setCell ⟨w.heap.size+1+1,1,none⟩ u1).setCell ⟨w.heap.size+1+1,2,none⟩ u2).setCell ⟨w.heap.size+1+1,3,none⟩ u3).setCell ⟨w.heap.size+1+1,4,none⟩ u4).setCell ⟨w.heap.size+1+1,5,none⟩ u5):=fun h=>((((((hb3.trans (h.mono hb3.size)).setCell (by simp;omega) _).setCell (by simp;omega) _).setCell (by simp;omega) _).setCell (by simp;omega) _).setCell (by simp;omega) _).setCell (by simp;omega) _
  obtain⟨x0,x1,x2,x3,x4,x5⟩:=id hX
  rcases xb2 (fun z:QL=>z.cls == y.cls) x.lz with hf | ⟨j,z,hf,hz,hp,hn⟩
  ·by_cases h3:3<=x.lz.length
   ·have HW:Hid (xax x y=⟨x.site,x.ez,true,[]⟩):=by show _=_;unfold xax;rw[if_neg (by rw[hf,hm'];simp),if_pos h3]
    have h3':(3:Int)<=(x.lz.length:Int):=by omega
    go_wp2_with fail;refine (xcT x.lz _ y.cls _ hl3).mono ?_;rintro e w1 ⟨rfl,hb1⟩;rw[hf];obtain⟨x0,x1,x2,x3,x4,x5⟩:=hX.later hb1;obtain⟨z0,z1,z2,z3,z4,z5⟩:=hZ.later hb1;have f2:=fun o=>(hb1.frozen (p:=⟨w.heap.size+1+1,o,none⟩) (by simp;omega)).trans (hF2 o)
    go_wp2;refine qzK (v:=EV ⟨x.site,x.ez,true,[]⟩ (.slice none 0 0)) ?_ rfl ?_
    ·simp[results,Tryz.results84,go_sem,z0,z1,z2,z3,z4,z5]
    ·rw[HW.out]
     exact⟨none,0,0,rfl,rfl,⟨none,0,rfl,by simp,by simp,by simp,fun i x hx=>by simp at hx⟩,hLast hb1⟩
   ·have HW:Hid (xax x y=⟨x.site,x.ez,false,x.lz++[y]⟩):=by show _=_;unfold xax;rw[if_neg (by rw[hf,hm'];simp),if_neg h3,hm']
    have h3':(x.lz.length:Int)<(3:Int):=by omega
    go_wp2_with fail;refine (xcT x.lz _ y.cls _ hl3).mono ?_;rintro e w1 ⟨rfl,hb1⟩;rw[hf];have hX1:=hX.later hb1;have hZ1:=hZ.later hb1;obtain⟨x0,x1,x2,x3,x4,x5⟩:=id hX1;have y0:=qzA hb1 hY0;have y1:=qzA hb1 hY1;have f0:=fun o=>(hb1.frozen (p:=⟨w.heap.size,o,none⟩) (by simp;omega)).trans (hF0 o)
    have f2:=fun o=>(hb1.frozen (p:=⟨w.heap.size+1+1,o,none⟩) (by simp;omega)).trans (hF2 o)
    have hl1:=hl3.later xbq hb1;have hz1:w.heap.size+3<=w1.heap.size:=by have:=hb1.size;omega
    go_wp2_with (at_builtin;refine xbp (R:=P) xbq rfl (.tmp 26) (.tmp 28) 68 rfl 72 _ 16 Tryz.underlying68 xi4 rfl x.lz _ rfl (hl1.later xbq (xaj _ _)) _ 72 [.int .i64 y.cls,.int .i64 y.found] rfl (qzJ _ _) rfl y (P':=fun b=>False) ⟨rfl,rfl⟩ hnone (by unfold maxLen;omega) (by omega) (fun _ h=>h) (fun _ h=>h.elim) ?_;intro g2 cap2 w2 hrow2 hg2 hgl2 hb2 hblk2;have hb12:=xbz (qzL _ _) hb2;obtain⟨x0,x1,x2,x3,x4,x5⟩:=hX1.later hb12;obtain⟨z0,z1,z2,z3,z4,z5⟩:=hZ1.later hb12;have g0:=fun o=>(hb12.frozen (p:=⟨w.heap.size,o,none⟩) (by simp;omega)).trans (f0 o);have g2':=fun o=>(hb12.frozen (p:=⟨w.heap.size+1+1,o,none⟩) (by simp;omega)).trans (f2 o);have HL2:Hid (xbI (fun b=>b=g2) w2 (.slice (some ⟨g2,0,none⟩) (x.lz.length+1) cap2) (x.lz++[y])):=xnF hblk2;clear hrow2 hblk2)
    have hg2':w.heap.size+3<=g2:=by simp at hg2;omega
    refine qzK (v:=EV ⟨x.site,x.ez,false,x.lz++[y]⟩ (.slice (some ⟨g2,0,none⟩) (x.lz.length+1) cap2)) ?_ rfl ?_
    ·simp[results,Tryz.results84,go_sem,z0,z1,z2,z3,z4,z5]
    ·rw[HW.out];have hbw2:Below w.heap.size w w2:=hb3.trans ((hb1.mono hb3.size).trans (hb12.mono (by have:=hb1.size;omega)))
     refine⟨some ⟨g2,0,none⟩,_,cap2,rfl,by simp,?_,((((((hbw2.setCell (qzC _) _).setCell (by simp;omega) _).setCell (by simp;omega) _).setCell (by simp;omega) _).setCell (by simp;omega) _).setCell (by simp;omega) _).setCell (by simp;omega) _⟩
     refine HL2.out.keep xbq ?_ (fun b h=>Or.inr (by omega))
     exact xaq (xaq (xaq (xaq (xaq (xaq (xaq (Keeps.refl _ _) (by show ¬ (_=g2);omega) _) (by show ¬ (_=g2);omega) _) (by show ¬ (_=g2);omega) _) (by show ¬ (_=g2);omega) _) (by show ¬ (_=g2);omega) _) (by show ¬ (_=g2);omega) _) (by show ¬ (_=g2);omega) _
  ·have HW:Hid (xax x y=x):=by show _=_;unfold xax;rw[if_pos (Or.inr (by rw[hf];omega))]
   have hj0:(0:Int)<=(j:Int):=by omega
   clear hz hp hn;go_wp2_with fail;refine (xcT x.lz _ y.cls _ hl3).mono ?_;rintro e w1 ⟨rfl,hb1⟩;rw[hf];obtain⟨x0,x1,x2,x3,x4,x5⟩:=hX.later hb1;obtain⟨z0,z1,z2,z3,z4,z5⟩:=hZ.later hb1;have f2:=fun o=>(hb1.frozen (p:=⟨w.heap.size+1+1,o,none⟩) (by simp;omega)).trans (hF2 o)
   go_wp2;refine qzK (v:=EV x (.slice ad x.lz.length x.lz.length)) ?_ rfl ?_
   ·simp[results,Tryz.results84,go_sem,z0,z1,z2,z3,z4,z5,hm']
   ·rw[HW.out]
    exact⟨ad,_,_,rfl,rfl,(hl.later xbq (hLast hb1)).mono xbq fun b h=>Or.inl h,hLast hb1⟩
def xbS (x:QE)(s:QS)(ep:Int):QE:=if x.ez=ep then x else ⟨s,ep,false,[]⟩
def xcX:List QE->QS->Int->QL->List QE
 | [],s,ep,y=>[xax ⟨s,ep,false,[]⟩ y]
 | x :: r,s,ep,y=>if eqS x.site s then xax (xbS x s ep) y :: r else x :: xcX r s ep y
theorem xhx:∀ {xs:List QE} {s:QS} {ep:Int} {y:QL},xbt (fun x=>eqS x.site s) xs=-1->xcX xs s ep y=xs++[xax ⟨s,ep,false,[]⟩ y]
 | [],s,ep,y,_=>rfl
 | x :: r,s,ep,y,h=>by
  have hx:eqS x.site s=false:=by
   cases hb:eqS x.site s with
   | false=>rfl
   | true=>rw[xb4 (j:=0) (x:=x) rfl hb (fun i y hi _=>by omega)] at h;simp at h
  have hr:xbt (fun x:QE=>eqS x.site s) r=-1:=by
   unfold xbt at h ⊢;rw[List.findIdx?_cons,hx] at h
   cases hf:r.findIdx? (fun x=>eqS x.site s) with
   | none=>rfl
   | some k=>rw[hf] at h;simp at h;omega
  simp[xcX,hx,xhx hr]
theorem xkS:∀ {xs:List QE} {s:QS} {ep:Int} {y:QL} {j:Nat} {x:QE},xs[j]?=some x->eqS x.site s=true->(∀ i z,i<j->xs[i]?=some z->eqS z.site s=false)->xcX xs s ep y=xs.set j (xax (xbS x s ep) y)
 | [],s,ep,y,j,x,h,_,_=>by simp at h
 | z :: r,s,ep,y,0,x,h,hp,_=>by
  simp at h;subst h
  simp[xcX,hp]
 | z :: r,s,ep,y,j+1,x,h,hp,hn=>by
  have hz:=hn 0 z (by omega) rfl
  simp only[xcX,hz,List.set_cons_succ];rw[xkS (xs:=r) (j:=j) (x:=x) (by simpa using h) hp (fun i u hi hu=>hn (i+1) u (by omega) (by simpa using hu))]
  rfl
theorem xhQ {α:Type}{E:Lay α}{sz:Nat}(G:Good E sz){w:World}{g j cap:Nat}{xs:List α}{x':α}{vs:List Value}{Q S:Nat->Prop}(hj:j<xs.length)
  (hoth:∀ i y,i≠j->xs[i]?=some y->∃ R:Nat->Prop,¬ R g/\(∀ b,R b->S b)/\E R w (fun k=>w.cell? ⟨g,i*sz+k,none⟩) y)
  (hblk:∀ k,k<sz->∃ u,w.cell? ⟨g,j*sz+k,none⟩=some u) (hl:vs.length=sz) (hE:E Q w (fun k=>vs[k]?) x') (hQ:¬ Q g) (hQS:∀ b,Q b->S b) (hSg:S g) (hc1:xs.length<=cap) (hc2:cap<=maxLen) :
  IsRow E sz 0 S (w.setCells g (j*sz) vs) (.slice (some ⟨g,0,none⟩) xs.length cap) (xs.set j x'):=by
 have hK:∀ R:Nat->Prop,¬ R g->Keeps R w (w.setCells g (j*sz) vs):=fun R hR=>Keeps.of_block fun b hb _=>xaI (by intro e;subst e;exact hR hb) _ _ _
 refine⟨some ⟨g,0,none⟩,cap,by simp,by simpa using hc1,hc2,by simp,fun i y hy=>⟨g,0,rfl,hSg,?_⟩⟩
 by_cases hij:i=j
 ·subst hij;rw[List.getElem?_set_self hj] at hy
  cases hy
  refine G.move hE hQS (hK Q hQ) fun k hk v hv=>?_
  have:=World.cell?_setCells_in g vs (i*sz) w (fun q hq=>by obtain⟨u,hu⟩:=hblk q (by omega);rw[hu];rfl) k (by omega)
  rw[Nat.zero_add,this];rw[List.getElem?_eq_getElem (by omega)] at hv
  exact hv
 ·rw[List.getElem?_set_ne (by omega)] at hy
  obtain⟨R,hR,hRS,hT⟩:=hoth i y hij hy;refine G.move hT hRS (hK R hR) fun k hk v hv=>?_
  rw[Nat.zero_add,World.cell?_setCells_out g vs (j*sz) w _ (fun q hq=>?_)]
  ·exact hv
  ·by_cases hlt:i<j
   ·left
    have:=Nat.mul_le_mul_right sz (show i+1<=j by omega)
    rw[Nat.add_mul] at this
    simp;omega
   ·right
    have:=Nat.mul_le_mul_right sz (show j+1<=i by omega)
    rw[Nat.add_mul] at this
    simp;omega
theorem xj0 {P:Nat->Prop}(xs:List QE)(v:Value)(s:QS)(ep c fd:Int)(w:World)(hh:xbk P w v xs)(hby:(xs.length+1)*72<=190000000000000)(hls:∀ x∈xs,x.lz.length*16<=281474976710656) :
  Calls Tryz.prog 63 #[v,SV s,.int .i64 ep,.int .i64 c,.int .i64 fd] w fun e w'=>∃ g cap,e=.returned (.slice (some ⟨g,0,none⟩) (xcX xs s ep ⟨c,fd⟩).length cap)/\xbk (fun b=>w.heap.size<=b) w' (.slice (some ⟨g,0,none⟩) (xcX xs s ep ⟨c,fd⟩).length cap) (xcX xs s ep ⟨c,fd⟩)/\Below w.heap.size w w':=by
 have hml:xs.length<=maxLen:=by unfold maxLen;omega
 obtain⟨ad,cap,rfl,-,-,-,-⟩:=id hh;have hb0:=xaj w (.cells #[.int .i64 s.cls,.string s.name,.int .i64 s.at'] 67);have hs0:=xeS w s 67;go_enter Tryz.func63,Tryz.ntmps63;go_wp2_with fail;refine (xdi xs _ _ (hh.later xbw hb0) (by omega) hls).mono ?_
 rintro e w1 ⟨g,rfl,hown,hg,hb1⟩;have hs1:=hs0.later hb1;have hb01:Below w.heap.size w w1:=xbz (qzL _ _) hb1;have hg0:w.heap.size<g:=by simp at hg;omega
 clear hb1 hb0 hs0 hg hh;obtain⟨s0,s1,s2⟩:=id hs1;go_wp2_with fail;refine (xeq xs _ s _ (xcs (hown.row0 xct hml))).mono ?_;rintro e w2 ⟨rfl,hb2⟩;replace hown:=hown.later xct hb2;obtain⟨s0,s1,s2⟩:=hs1.later hb2;have hb02:Below w.heap.size w w2:=xah hb01 hb2;clear hb2 hb01
 rcases xb2 (fun x:QE=>eqS x.site s) xs with hf | ⟨j,x,hf,hx,hp,hn⟩
 ·have HO:Hid (xcX xs s ep ⟨c,fd⟩=xs++[xax ⟨s,ep,false,[]⟩ ⟨c,fd⟩]):=xhx hf;rw[hf];have hrow:=hown.row0 xct hml
  go_wp2_with (at_builtin;refine xbp (R:=fun b=>g<=b/\b<w2.heap.size) xct rfl (.tmp 22) (.tmp 26) 31 rfl 70 _ 72 Tryz.underlying31 xmQ rfl xs _ rfl (hrow.later xct (xaj _ _)) _ 70 [.int .i64 s.cls,.string s.name,.int .i64 s.at',.int .i64 ep,.bool false,.slice none 0 0] rfl (qzJ _ _) rfl ⟨s,ep,false,[]⟩ (P':=fun b=>False) ⟨rfl,rfl,rfl,rfl,rfl,_,rfl,none,rfl,fun _=>rfl,none,0,rfl,by simp,by simp,by simp,fun i x hx=>by simp at hx⟩ (fun h=>by cases h) (by unfold maxLen;omega) ⟨hby,by decide⟩ (fun _ h=>h) (fun _ h=>h.elim) ?_;intro g' cap' w3 hrow3 hg3 hgl3 hb3 hblk3;obtain⟨cur3,q1,q2,q3,q4,q5,q6⟩:=hblk3;have k0:=q6 0 _ rfl;have k1:=q6 1 _ rfl;have k2:=q6 2 _ rfl;have k3:=q6 3 _ rfl;have k4:=q6 4 _ rfl;have k5:=q6 5 _ rfl;simp only[Nat.add_zero] at k0;have fz3:∀ o,w3.frozen? ⟨g',o,none⟩=false:=(fun o=>by simp[World.frozen?,q1]);have hn1:(xs.length:Int)<(xs.length:Int)+1:=(by omega);have hn0:(0:Int)<=(xs.length:Int):=(by omega);clear hrow3)
  refine (xds (P:=fun _=>False) ⟨s,ep,false,[]⟩ ⟨c,fd⟩ _ w3 ⟨none,rfl,fun _=>rfl,none,0,rfl,by simp,by simp,by simp,fun i x hx=>by simp at hx⟩).mono ?_
  rintro e w4 ⟨a4,n4,c4,rfl,hn4,hL4,hb4⟩;have hg3':w2.heap.size+1<=g':=by simpa using hg3
  have hz2:=hb02.size;have hb3':Below w.heap.size w w3:=xbz hb02 hb3;have hz3:=hb3'.size;generalize xax ⟨s,ep,false,[]⟩ ⟨c,fd⟩=x' at *;have k0:=qzA hb4 k0;have k1:=qzA hb4 k1;have k2:=qzA hb4 k2;have k3:=qzA hb4 k3;have k4:=qzA hb4 k4;have k5:=qzA hb4 k5;have f4:∀ o,w4.frozen? ⟨g',o,none⟩=false:=fun o=>(hb4.frozen (p:=⟨g',o,none⟩) hgl3).trans (fz3 o)
  have HOTH:Hid (∀ i y,i≠xs.length->(xs++[(⟨s,ep,false,[]⟩:QE)])[i]?=some y->∃ R:Nat->Prop,¬ R g'/\(∀ b,R b->w.heap.size<=b)/\xhq R w4 (fun k=>w4.cell? ⟨g',i*6+k,none⟩) y):=fun i y hi hy=>by
   refine⟨fun b=>g<=b/\b<w2.heap.size,fun h=>by omega,fun b h=>by omega,CellT.plain ?_⟩
   refine xct.move (q5.2 i y hy) (fun _ h=>h) (.of_below hb4) fun k hk v hv=>?_
   rw[List.getElem?_take] at hv
   split at hv
   ·refine qzA hb4 ?_;rw[qzB q1]
    simpa using hv
   ·cases hv
  have HBK:Hid (∀ k,k<6->∃ u,w4.cell? ⟨g',xs.length*6+k,none⟩=some u):=fun k hk=>by
   match k,hk with
   | 0,_=>exact⟨_,k0⟩
   | 1,_=>exact⟨_,k1⟩
   | 2,_=>exact⟨_,k2⟩
   | 3,_=>exact⟨_,k3⟩
   | 4,_=>exact⟨_,k4⟩
   | 5,_=>exact⟨_,k5⟩
  clear hb3 fz3 q6 q5 hrow hf hown;subst hn4;go_wp2_with fail
  go_ret
  rw[HO.out];refine⟨g',cap',by simp,?_,((((((hb3'.trans (hb4.mono hz3)).setCell (by simp;omega) _).setCell (by simp;omega) _).setCell (by simp;omega) _).setCell (by simp;omega) _).setCell (by simp;omega) _).setCell (by simp;omega) _⟩
  have:=xhQ xbw (g:=g') (j:=xs.length) (cap:=cap') (xs:=xs++[⟨s,ep,false,[]⟩]) (x':=x') (vs:=[.int .i64 x'.site.cls,.string x'.site.name,.int .i64 x'.site.at',.int .i64 x'.ez,.bool x'.many,.slice a4 x'.lz.length c4]) (Q:=fun b=>False\/w3.heap.size<=b) (S:=fun b=>w.heap.size<=b) (by simp) HOTH.out HBK.out rfl ⟨rfl,rfl,rfl,rfl,rfl,_,rfl,hL4⟩ (by rintro (h | h)<;>first | exact h | omega) (fun b h=>by rcases h with h | h<;>first | exact h.elim | omega) (by omega) (by simpa using q3) q4
  rw[show (xs++[(⟨s,ep,false,[]⟩:QE)]).set xs.length x'=xs++[x'] by simp,show (xs++[(⟨s,ep,false,[]⟩:QE)]).length=xs.length+1 by simp] at this
  rw[show (xs++[x']).length=xs.length+1 by simp]
  exact this
 ·have HO:Hid (xcX xs s ep ⟨c,fd⟩=xs.set j (xax (xbS x s ep) ⟨c,fd⟩)):=xkS hx hp hn;have hj:=xae hx;have hj0:(0:Int)<=(j:Int):=by omega
  have hj1:(j:Int)<(xs.length:Int):=by omega
  obtain⟨k0,k1,k2,k3,k4,lv,k5,htl⟩:=hown.2 j x hj hx;replace k0:w2.cell? ⟨g,j*6,none⟩=some (.int .i64 x.site.cls):=k0;replace k1:w2.cell? ⟨g,j*6+1,none⟩=some (.string x.site.name):=k1;replace k2:w2.cell? ⟨g,j*6+2,none⟩=some (.int .i64 x.site.at'):=k2;replace k3:w2.cell? ⟨g,j*6+3,none⟩=some (.int .i64 x.ez):=k3;replace k4:w2.cell? ⟨g,j*6+4,none⟩=some (.bool x.many):=k4;replace k5:w2.cell? ⟨g,j*6+5,none⟩=some lv:=k5;have hz2:=hb02.size;have fz2:∀ o,w2.frozen? ⟨g,o,none⟩=false:=hown.unfrozen;have hgl:g<w2.heap.size:=by obtain⟨⟨cur,h1,-⟩,-⟩:=hown;exact xaf h1
  have HOTH:Hid (∀ w',Keeps (fun b=>g<b/\b<w2.heap.size) w2 w'->(∀ i k,i<xs.length->i≠j->k<6->∀ v,w2.cell? ⟨g,i*6+k,none⟩=some v->w'.cell? ⟨g,i*6+k,none⟩=some v)->∀ i y,i≠j->xs[i]?=some y->∃ R:Nat->Prop,¬ R g/\(∀ b,R b->w.heap.size<=b)/\xhq R w' (fun k=>w'.cell? ⟨g,i*6+k,none⟩) y):=fun w' hk hcl i y hi hy=>by
   refine⟨fun b=>g<b/\b<w2.heap.size,fun h=>by omega,fun b h=>by omega,CellT.plain ?_⟩
   exact xct.move (hown.2 i y (xae hy) hy) (fun _ h=>h) hk fun k hk' v hv=>hcl i k (xae hy) hi hk' v hv
  rw[hf];clear hf hn hx hs1
  by_cases he:x.ez=ep
  ·have HF:Hid (xbS x s ep=x):=by show _=_;unfold xbS;rw[if_pos he]
   rw[HF.out] at HO;subst he;go_wp2_with fail;refine (xds x ⟨c,fd⟩ lv w2 htl).mono ?_;rintro e w3 ⟨a3,n3,c3,rfl,hn3,hL3,hb3⟩;generalize xax x ⟨c,fd⟩=x' at *;have HO3:Hid (∀ i y,i≠j->xs[i]?=some y->∃ R:Nat->Prop,¬ R g/\(∀ b,R b->w.heap.size<=b)/\xhq R w3 (fun k=>w3.cell? ⟨g,i*6+k,none⟩) y):=HOTH.out w3 (.of_below hb3) fun i k _ _ _ v hv=>qzA hb3 hv
   have m0:=qzA hb3 k0;have m1:=qzA hb3 k1;have m2:=qzA hb3 k2;have m3:=qzA hb3 k3;have m4:=qzA hb3 k4;have m5:=qzA hb3 k5;have hbw3:=xah hb02 hb3;clear k0 k1 k2 k3 k4 k5 HOTH hown htl s0 s1 s2;have f3:∀ o,w3.frozen? ⟨g,o,none⟩=false:=fun o=>(hb3.frozen (p:=⟨g,o,none⟩) hgl).trans (fz2 o)
   have HBK:Hid (∀ k,k<6->∃ u,w3.cell? ⟨g,j*6+k,none⟩=some u):=fun k hk=>by
    match k,hk with
    | 0,_=>exact⟨_,m0⟩
    | 1,_=>exact⟨_,m1⟩
    | 2,_=>exact⟨_,m2⟩
    | 3,_=>exact⟨_,m3⟩
    | 4,_=>exact⟨_,m4⟩
    | 5,_=>exact⟨_,m5⟩
   subst hn3;go_wp2_with fail
   go_ret
   rw[HO.out];refine⟨g,xs.length,by simp,?_,(((((hbw3.setCell (by simp;omega) _).setCell (by simp;omega) _).setCell (by simp;omega) _).setCell (by simp;omega) _).setCell (by simp;omega) _).setCell (by simp;omega) _⟩
   have:=xhQ xbw (g:=g) (j:=j) (cap:=xs.length) (xs:=xs) (x':=x') (vs:=[.int .i64 x'.site.cls,.string x'.site.name,.int .i64 x'.site.at',.int .i64 x'.ez,.bool x'.many,.slice a3 x'.lz.length c3]) (Q:=fun b=>(g<b/\b<w2.heap.size)\/w2.heap.size<=b) (S:=fun b=>w.heap.size<=b) hj HO3.out HBK.out rfl ⟨rfl,rfl,rfl,rfl,rfl,_,rfl,hL3⟩ (by rintro (h | h)<;>first | exact h | omega) (fun b h=>by rcases h with h | h<;>first | exact h.elim | omega) (by omega) (qzC _) hml
   rw[show (xs.set j x').length=xs.length by simp]
   exact this
  ·have HF:Hid (xbS x s ep=⟨s,ep,false,[]⟩):=by show _=_;unfold xbS;rw[if_neg he]
   rw[HF.out] at HO;have hd:(x.ez != ep)=true:=by simpa using he
   go_wp2_with fail
   have hin:=fun k (hk:k<6)=>World.cell?_setCells_in g [.int .i64 s.cls,.string s.name,.int .i64 s.at',.int .i64 ep,.bool false,.slice none 0 0] (j*6) w2 (fun q hq=>by
    simp only[List.length_cons,List.length_nil] at hq
    match q,hq with
    | 0,_=>show (w2.cell? ⟨g,j*6,none⟩).isSome=true;rw[k0];rfl
    | 1,_=>rw[k1];rfl
    | 2,_=>rw[k2];rfl
    | 3,_=>rw[k3];rfl
    | 4,_=>rw[k4];rfl
    | 5,_=>rw[k5];rfl) k (by simpa using hk)
   have hW:Keeps (fun b=>g<b/\b<w2.heap.size) w2 (w2.setCells g (j*6) [.int .i64 s.cls,.string s.name,.int .i64 s.at',.int .i64 ep,.bool false,.slice none 0 0]):=Keeps.of_block fun b hb _=>xaI (by omega) _ _ _
   have hWo:∀ i k,i<xs.length->i≠j->k<6->∀ v,w2.cell? ⟨g,i*6+k,none⟩=some v->(w2.setCells g (j*6) [.int .i64 s.cls,.string s.name,.int .i64 s.at',.int .i64 ep,.bool false,.slice none 0 0]).cell? ⟨g,i*6+k,none⟩=some v:=fun i k hi hij hk v hv=>by
    rw[World.cell?_setCells_out g _ (j*6) w2 _ (fun _ _=>?_)]
    ·exact hv
    ·simp;omega
   have hWb:Below w.heap.size w (w2.setCells g (j*6) [.int .i64 s.cls,.string s.name,.int .i64 s.at',.int .i64 ep,.bool false,.slice none 0 0]):=(((((hb02.setCell (by simp;omega) _).setCell (by simp;omega) _).setCell (by simp;omega) _).setCell (by simp;omega) _).setCell (by simp;omega) _).setCell (by simp;omega) _
   have hWz:(w2.setCells g (j*6) [.int .i64 s.cls,.string s.name,.int .i64 s.at',.int .i64 ep,.bool false,.slice none 0 0]).heap.size=w2.heap.size:=xbh _ _ _;have hWf:∀ o,(w2.setCells g (j*6) [.int .i64 s.cls,.string s.name,.int .i64 s.at',.int .i64 ep,.bool false,.slice none 0 0]).frozen? ⟨g,o,none⟩=false:=fun o=>by simpa [World.setCells] using fz2 o
   change Calls Tryz.prog 84 _ (w2.setCells g (j*6) [.int .i64 s.cls,.string s.name,.int .i64 s.at',.int .i64 ep,.bool false,.slice none 0 0]) _;generalize (w2.setCells g (j*6) [.int .i64 s.cls,.string s.name,.int .i64 s.at',.int .i64 ep,.bool false,.slice none 0 0])=W2 at *;refine (xds (P:=fun _=>False) ⟨s,ep,false,[]⟩ ⟨c,fd⟩ _ W2 ⟨none,rfl,fun _=>rfl,none,0,rfl,by simp,by simp,by simp,fun i x hx=>by simp at hx⟩).mono ?_
   rintro e w3 ⟨a3,n3,c3,rfl,hn3,hL3,hb3⟩;generalize xax ⟨s,ep,false,[]⟩ ⟨c,fd⟩=x' at *;have HO3:Hid (∀ i y,i≠j->xs[i]?=some y->∃ R:Nat->Prop,¬ R g/\(∀ b,R b->w.heap.size<=b)/\xhq R w3 (fun k=>w3.cell? ⟨g,i*6+k,none⟩) y):=HOTH.out w3 (hW.trans (.of_below hb3)) fun i k h1 h2 h3 v hv=>qzA hb3 (hWo i k h1 h2 h3 v hv)
   have m0:w3.cell? ⟨g,j*6,none⟩=some (.int .i64 s.cls):=qzA hb3 (hin 0 (by omega))
   have m1:w3.cell? ⟨g,j*6+1,none⟩=some (.string s.name):=qzA hb3 (hin 1 (by omega))
   have m2:w3.cell? ⟨g,j*6+2,none⟩=some (.int .i64 s.at'):=qzA hb3 (hin 2 (by omega))
   have m3:w3.cell? ⟨g,j*6+3,none⟩=some (.int .i64 ep):=qzA hb3 (hin 3 (by omega))
   have m4:w3.cell? ⟨g,j*6+4,none⟩=some (.bool false):=qzA hb3 (hin 4 (by omega))
   have m5:w3.cell? ⟨g,j*6+5,none⟩=some (.slice none 0 0):=qzA hb3 (hin 5 (by omega))
   have hbw3:=xah hWb hb3;clear k0 k1 k2 k3 k4 k5 HOTH hown htl s0 s1 s2;have f3:∀ o,w3.frozen? ⟨g,o,none⟩=false:=fun o=>(hb3.frozen (p:=⟨g,o,none⟩) (by simp;omega)).trans (hWf o)
   clear hin hW hWo hWf hWb
   have HBK:Hid (∀ k,k<6->∃ u,w3.cell? ⟨g,j*6+k,none⟩=some u):=fun k hk=>by
    match k,hk with
    | 0,_=>exact⟨_,m0⟩
    | 1,_=>exact⟨_,m1⟩
    | 2,_=>exact⟨_,m2⟩
    | 3,_=>exact⟨_,m3⟩
    | 4,_=>exact⟨_,m4⟩
    | 5,_=>exact⟨_,m5⟩
   subst hn3;go_wp2_with fail
   go_ret
   rw[HO.out];refine⟨g,xs.length,by simp,?_,(((((hbw3.setCell (by simp;omega) _).setCell (by simp;omega) _).setCell (by simp;omega) _).setCell (by simp;omega) _).setCell (by simp;omega) _).setCell (by simp;omega) _⟩
   have:=xhQ xbw (g:=g) (j:=j) (cap:=xs.length) (xs:=xs) (x':=x') (vs:=[.int .i64 x'.site.cls,.string x'.site.name,.int .i64 x'.site.at',.int .i64 x'.ez,.bool x'.many,.slice a3 x'.lz.length c3]) (Q:=fun b=>False\/W2.heap.size<=b) (S:=fun b=>w.heap.size<=b) hj HO3.out HBK.out rfl ⟨rfl,rfl,rfl,rfl,rfl,_,rfl,hL3⟩ (by rintro (h | h)<;>first | exact h | omega) (fun b h=>by rcases h with h | h<;>first | exact h.elim | omega) (by omega) (qzC _) hml
   rw[show (xs.set j x').length=xs.length by simp]
   exact this
end Go.Proofs.YtapbeiccodnniaaGreat
