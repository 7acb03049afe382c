/- A part. -/
import Derived.Test.YtaodadfahifbpaaGreatM8
namespace Go.Proofs.YtaodadfahifbpaaGreat
open Go.ChangeShapes Go.WideShapes Go.ChangeAt Go.RowKit
set_option linter.unusedSimpArgs false
set_option linter.unusedVariables false
set_option maxHeartbeats 8000000
set_option maxRecDepth 8000
theorem xi0 {xs:List QC}{c n:Int}{mt:QM}(h:xaJ xs c n=some mt):∃ (kc kn:Nat) (x:QC),c=(kc:Int)/\n=(kn:Int)/\xs[kc]?=some x/\x.mz[kn]?=some mt:=by
 unfold xaJ at h
 cases hc:xbo xs c with
 | none=>rw[hc] at h;cases h
 | some x=>
  rw[hc] at h;obtain⟨k,rfl,hk⟩:=xa4 hc;simp only[Option.bind_some] at h
  split at h
  ·exact⟨k,n.toNat,x,rfl,by omega,hk,h⟩
  ·cases h
def MtR (X:QW)(sites:List Int)(Z:World)(bm:Nat)(m:QM)(kv:Value)(c:Int)(gk:Nat)(pv iv:Value)(wr:World):Prop:=
 ∃ (j:Nat) (a:Option Addr) (cap:Nat),j+gk=m.code.length/\iv=.int .i64 (j:Int)/\pv=.int .i64 ((xaD X.cz sites m j).pieces:Int)/\MtL Z bm m kv c X.ez (xaD X.cz sites m j).temps (xaD X.cz sites m j).code ((xaD X.cz sites m j).begins++List.replicate (m.code.length-j) 0) a cap wr
theorem xn6 {X:QW}{sites:List Int}{Z:World}{bm:Nat}{m:QM}{kv:Value}{c:Int}{j:Nat}{x:QI}(hx:m.code[j]?=some x)(hw:xl1 X.cz sites m.code.length (xaD X.cz sites m j).code.length (xaD X.cz sites m j).temps j x=none){a':Option Addr}{cap':Nat}{W:World}
  (h:MtL Z bm m kv c X.ez (xaD X.cz sites m j).temps ((xaD X.cz sites m j).code++[xeN x (j:Int)]) (((xaD X.cz sites m j).begins++List.replicate (m.code.length-j) 0).set j ((xaD X.cz sites m j).code.length:Int)) a' cap' W):MtR X sites Z bm m kv c (m.code.length-(j+1)) (.int .i64 ((xaD X.cz sites m j).pieces:Int)) (.int .i64 ((j:Int)+1)) W:=by
 have hj:=xag hx;refine⟨j+1,a',cap',by omega,by go_num,?_,?_⟩
 ·rw[xbU hx];unfold xeu;rw[hw]
 ·rw[xf3 (xb6 (by omega)) hj] at h
  rw[xbU hx];unfold xeu;rw[hw]
  exact h
theorem xmV {X:QW}{sites:List Int}{Z:World}{bm:Nat}{m:QM}{kv:Value}{c:Int}{j:Nat}{x:QI}{leaf:QM}(hx:m.code[j]?=some x)(hw:xl1 X.cz sites m.code.length (xaD X.cz sites m j).code.length (xaD X.cz sites m j).temps j x=some leaf){a':Option Addr}{cap':Nat}{W:World}
  (h:MtL Z bm m kv c X.ez ((xaD X.cz sites m j).temps+1+leaf.args+leaf.temps) ((xaD X.cz sites m j).code++xdz leaf (ins 18 (sites.getD j (-1)) leaf.args j) (xaD X.cz sites m j).temps (xaD X.cz sites m j).code.length) (((xaD X.cz sites m j).begins++List.replicate (m.code.length-j) 0).set j ((xaD X.cz sites m j).code.length:Int)) a' cap' W):MtR X sites Z bm m kv c (m.code.length-(j+1)) (.int .i64 ((xaD X.cz sites m j).pieces+1:Int)) (.int .i64 ((j:Int)+1)) W:=by
 have hj:=xag hx;refine⟨j+1,a',cap',by omega,by go_num,?_,?_⟩
 ·rw[xbU hx];unfold xeu;rw[hw];rfl
 ·rw[xf3 (xb6 (by omega)) hj] at h
  rw[xbU hx];unfold xeu;rw[hw]
  exact h
structure RbX (w:World)(cv hv:Value)(ep:Int)(w':World):Prop where
 w0:w'.cell? ⟨w.heap.size,0,none⟩=some cv
 w1:w'.cell? ⟨w.heap.size,1,none⟩=some hv
 w2:w'.cell? ⟨w.heap.size,2,none⟩=some (.int .i64 ep)
 z0:w'.cell? ⟨w.heap.size+1,0,none⟩=some (.int .i64 0)
 z1:w'.cell? ⟨w.heap.size+1,1,none⟩=some (.string ⟨#[]⟩)
 z2:w'.cell? ⟨w.heap.size+1,2,none⟩=some (.int .i64 0)
 z3:w'.cell? ⟨w.heap.size+1,3,none⟩=some (.int .i64 0)
 z4:w'.cell? ⟨w.heap.size+1,4,none⟩=some (.slice none 0 0)
 zf:∀ o,w'.frozen? ⟨w.heap.size+1,o,none⟩=false
 sz:w.heap.size+2<=w'.heap.size
theorem RbX.later {w:World}{cv hv:Value}{ep:Int}{w' w'':World}(h:RbX w cv hv ep w')(hb:Below w'.heap.size w' w''):RbX w cv hv ep w'':=
 ⟨qzA hb h.w0,qzA hb h.w1,qzA hb h.w2,qzA hb h.z0,qzA hb h.z1,qzA hb h.z2,qzA hb h.z3,qzA hb h.z4,fun o=>(hb.frozen (p:=⟨w.heap.size+1,o,none⟩) (by have:=h.sz;simp only;omega)).trans (h.zf o),qzD h.sz hb.size⟩
theorem xkv (w:World)(cv hv:Value)(ep:Int):RbX w cv hv ep ((w.alloc (.cells #[cv,hv,.int .i64 ep] 25)).alloc (.cells #[.int .i64 0,.string ⟨#[]⟩,.int .i64 0,.int .i64 0,.slice none 0 0] 49)):=by
 have e1:(w.alloc (.cells #[cv,hv,.int .i64 ep] 25)).heap.size=w.heap.size+1:=by simp
 exact⟨qzA (xaj _ _) (xaa w #[cv,hv,.int .i64 ep] 25 _ rfl 0),qzA (xaj _ _) (xaa w #[cv,hv,.int .i64 ep] 25 _ rfl 1),qzA (xaj _ _) (xaa w #[cv,hv,.int .i64 ep] 25 _ rfl 2),xaa _ _ _ _ e1 0,xaa _ _ _ _ e1 1,xaa _ _ _ _ e1 2,xaa _ _ _ _ e1 3,xaa _ _ _ _ e1 4,xbB (cur:=#[.int .i64 0,.string ⟨#[]⟩,.int .i64 0,.int .i64 0,.slice none 0 0]) (t:=49) (by rw[← e1];exact heap_alloc_new _ _),by simp⟩
theorem xow (w1:World)(m:QM)(kv:Value)(c ep tm:Int)(n:Nat)(_:Unit):MtL (((w1.alloc (.cells #[.string m.name,.int .i64 m.args,.int .i64 m.temps,.int .i64 m.prim,kv] 59)).alloc (.cells #[.int .i64 c,.string m.name,.int .i64 ep,.int .i64 tm,.slice none 0 0] 49)).alloc (xeD (List.replicate n 0))) w1.heap.size m kv c ep tm [] (List.replicate n 0) none 0 (((w1.alloc (.cells #[.string m.name,.int .i64 m.args,.int .i64 m.temps,.int .i64 m.prim,kv] 59)).alloc (.cells #[.int .i64 c,.string m.name,.int .i64 ep,.int .i64 tm,.slice none 0 0] 49)).alloc (xeD (List.replicate n 0))):=by
 have e1:(w1.alloc (.cells #[.string m.name,.int .i64 m.args,.int .i64 m.temps,.int .i64 m.prim,kv] 59)).heap.size=w1.heap.size+1:=by simp
 have e2:((w1.alloc (.cells #[.string m.name,.int .i64 m.args,.int .i64 m.temps,.int .i64 m.prim,kv] 59)).alloc (.cells #[.int .i64 c,.string m.name,.int .i64 ep,.int .i64 tm,.slice none 0 0] 49)).heap.size=w1.heap.size+2:=by simp
 refine⟨rfl,rfl,rfl,by simp,fun _ _=>rfl,xad (heap_alloc_new w1 _) (xbA _ _ _),xad (by rw[← e1];exact heap_alloc_new _ _) (xaj _ _),by rw[← e2];exact heap_alloc_new _ _,⟨rfl,Or.inl ⟨rfl,rfl⟩⟩⟩
theorem xnm {w U:World}{r:Fst × Bool}{a:Option Addr}{cap:Nat}(hb:Below w.heap.size w U)(hco:xaK (fun b=>w.heap.size+2<=b/\b<U.heap.size) U (.slice a r.1.code.length cap) r.1.code):xhW w r (.returned (.tuple #[FsV r.1 (.slice a r.1.code.length cap),.bool r.2])) (xj9 U (w.heap.size+1) (.int .i64 r.1.cls) (.string r.1.name) (.int .i64 r.1.ez) (.int .i64 r.1.temps) (.slice a r.1.code.length cap)):=by
 refine⟨a,cap,rfl,hco.keep xaV (Keeps.of_block fun b hb _=>xpI (by omega)) fun b h=>⟨by omega,?_⟩,xpw hb (by omega)⟩
 simp only[xa3];exact h.2
theorem xlu {w U:World}(hb:Below w.heap.size w U):xhW w (xc7,false) (.returned (.tuple #[FsV xc7 (.slice none 0 0),.bool false])) (xj9 U (w.heap.size+1) (.int .i64 0) (.string ⟨#[]⟩) (.int .i64 0) (.int .i64 0) (.slice none 0 0)):=xnm (r:=(xc7,false)) (a:=none) (cap:=0) hb xbk
theorem xeC {xs:List QC}{sites:List Int}{m:QM}:∀ k:Nat,(xaD xs sites m k).pieces<=(xaD xs sites m k).code.length
 | 0=>qzC _
 | k+1=>by
  have ih:=xeC (xs:=xs) (sites:=sites) (m:=m) k;unfold xaD
  split
  ·exact ih
  ·generalize xaD xs sites m k=s at *;unfold xeu
   split
   ·simp;omega
   ·simp[xdo];omega
theorem xiQ {xs:List QC}{sites:List Int}{m:QM}:∀ k:Nat,∀ b∈(xaD xs sites m k).begins,0<=b/\b<((xaD xs sites m k).code.length:Int)
 | 0,b,hb=>by simp[xaD] at hb
 | k+1,b,hb=>by
  have ih:=xiQ (xs:=xs) (sites:=sites) (m:=m) k;unfold xaD at hb ⊢
  split at hb
  ·exact ih b hb
  ·rename_i x h;generalize xaD xs sites m k=s at *;rw[xfG] at hb
   have hl:s.code.length<(xeu xs sites m.code.length s k x).code.length:=by
    unfold xeu
    split
    ·simp
    ·simp[xdo];omega
   rcases List.mem_append.1 hb with h' | h'
   ·have:=ih b h';omega
   ·simp at h';omega
theorem xph {P:Nat->Prop}{w:World}{cv:Value}{xs:List QC}(hC:xaf P w cv xs){c n:Int}{m:QM}(hm:xaJ xs c n=some m):NmOk m.code:=by
 obtain⟨q,t,x,rfl,rfl,hx,ht⟩:=xi0 hm;obtain⟨ac,cc,rfl,-,-,-,hrow⟩:=hC;obtain⟨b,o,-,-,-,-,-,-,mv,-,hms⟩:=hrow q x hx;obtain⟨am,cm,rfl,-,-,-,hrm⟩:=hms;obtain⟨b2,o2,-,-,-,-,-,-,-,kv,-,hco⟩:=hrm t m ht;obtain⟨ak,ck,rfl,-,-,-,hrk⟩:=hco;intro y hy;obtain⟨i,hi,rfl⟩:=List.mem_iff_getElem.1 hy;obtain⟨b3,o3,-,-,-,-,-,-,-,hsz⟩:=hrk i m.code[i] (by simp)
 exact hsz
theorem nm0:(⟨#[]⟩:ByteArray).size<=140737488351232:=by decide
theorem xkS (l:List QI)(h:∀ x∈l,x.name=⟨#[]⟩):NmOk l:=fun x hx=>by rw[h x hx];exact nm0
theorem xmk {leaf:QM}(h:NmOk leaf.code)(g:QI)(hg:g.name.size<=140737488351232)(self n:Int):NmOk (xdz leaf g self n):=by
 have hs:∀ (a:Int) (k:Nat),NmOk (xdJ a k):=by
  intro a k
  induction k with
  | zero=>exact xkS _ fun x hx=>by simp[xdJ] at hx
  | succ k ih=>
   intro x hx;simp only[xdJ,List.mem_cons] at hx
   rcases hx with rfl | hx
   ·exact nm0
   ·exact ih x hx
 have hn:∀ (a:Int) (k:Nat),NmOk (xcY a k):=by
  intro a k
  induction k with
  | zero=>exact xkS _ fun x hx=>by simp[xcY] at hx
  | succ k ih=>
   rw[xeA];refine ih.append (xkS _ fun x hx=>?_)
   simp only[List.mem_cons,List.not_mem_nil,or_false] at hx
   rcases hx with rfl | rfl<;>rfl
 unfold xdz xkF;refine ((((?_:NmOk _).append (hs _ _)).append ?_).append (hn _ _)).append ?_
 ·intro x hx;simp only[List.mem_cons,List.not_mem_nil,or_false] at hx
  rcases hx with rfl | rfl
  ·exact hg
  ·exact nm0
 ·intro x hx;simp only[List.mem_cons,List.not_mem_nil,or_false] at hx;subst hx
  exact nm0
 ·intro x hx;obtain⟨y,hy,rfl⟩:=List.mem_map.1 hx;unfold xa6
  repeat' split
  all_goals first | exact nm0 | exact h y hy
theorem xjp {P:Nat->Prop}{w:World}{cv:Value}{xs:List QC}(hC:xaf P w cv xs){sites:List Int}{m:QM}(hm:NmOk m.code):∀ k:Nat,NmOk (xaD xs sites m k).code
 | 0=>fun x hx=>by simp[xaD] at hx
 | k+1=>by
  have ih:=xjp hC (sites:=sites) hm k;unfold xaD
  split
  ·exact ih
  ·rename_i x hx;generalize xaD xs sites m k=s at *;unfold xeu
   split
   ·refine ih.append fun y hy=>?_
    simp at hy
    subst hy;have:=hm x (List.mem_of_getElem? hx);unfold xeN
    split<;>exact this
   ·rename_i leaf hw;refine ih.append (xmk ?_ _ nm0 _ _);unfold xl1 at hw
    split at hw
    ·cases hw
    ·rename_i lf hst
     split at hw
     ·cases hw
      unfold xbg at hst
      split at hst
      ·split at hst
       ·cases hst
       ·rename_i m' hm'
        split at hst
        ·cases hst;exact xph hC (xhj hm')
        ·cases hst
      ·cases hst
     ·cases hw
theorem xm7 {begins:List Int}{plain code:List QI}(h:NmOk code):∀ k,NmOk (xeO begins plain code k)
 | 0=>h
 | k+1=>by
  have ih:=xm7 (begins:=begins) (plain:=plain) h k;unfold xeO
  split
  ·split
   ·intro x hx;obtain⟨i,hi⟩:=List.mem_iff_getElem?.1 hx;rw[List.getElem?_modify] at hi
    cases hc:(xeO begins plain code k)[i]? with
    | none=>rw[hc] at hi;simp at hi
    | some y=>
     rw[hc] at hi;have:=ih y (List.mem_of_getElem? hc)
     simp at hi
     split at hi<;>(rw[← hi];exact this)
   ·exact ih
  ·exact ih
theorem xmo {w:World}{B cap:Nat}{ad:Addr}{code:List QI}(h:OwnI w B (some ad) cap code):∀ j u,(xa9 code)[j]?=some u->w.cell? (ad.add j)=some u:=by
 obtain⟨h1,h2 | ⟨g,o,c,cur,e,h3,h4,h5,h6,h7,h8⟩⟩:=h
 ·cases h2.1
 ·cases e
  intro j u hu;rw[← h8,List.getElem?_take] at hu
  split at hu
  ·rw[List.getElem?_drop] at hu;rw[Addr.add_lit,qzB h4]
   simpa using hu
  ·cases hu
theorem xiI {P Q:Nat->Prop}(X:QW)(hX:xaW X=0)(c k:Int)(m:QM)(hm:xaJ X.cz c k=some m)(sites:List Int)(cv hv sv:Value)(w:World)(hC:xaf P w cv X.cz)(hH:xaA P w hv X.heap)(hS:xcL Q w sv sites) :
  Calls Tryz.prog 22 #[WV cv hv X.ez,.int .i64 c,.int .i64 k,sv] w fun e w'=>xhW w (xlc X c m sites) e w':=by
 obtain⟨ac,cc,rfl,-,hcc,-,hrowC⟩:=id (xdy hC);obtain⟨ah,ch,rfl,-⟩:=id hH;obtain⟨asv,cs,rfl,hls,hcs,-,hrowS⟩:=id hS;unfold maxLen at hcs hcc;have hSm:=xfZ hX hm;obtain⟨qc,tc,xc,rfl,rfl,hxc,hmt⟩:=xi0 hm;obtain⟨b1,o1,hb1e,-,-,-,-,-,mv,u3,hms⟩:=hrowC qc xc hxc;obtain⟨am,cm,rfl,hlm,hcm,-,hrm⟩:=hms;obtain⟨b2,o2,rfl,-,v0,v1,v2,v3,-,kv,v4,hco⟩:=hrm tc m hmt;obtain⟨ak,ck,rfl,hlk,hck,-,hrowK⟩:=id hco;subst hb1e;simp only[Nat.add_zero] at v0;unfold maxLen at hcm hck;have hq:=xag hxc;have ht:=xag hmt;have hq1:(qc:Int)<(X.cz.length:Int):=by omega
 have hq0:(0:Int)<=(qc:Int):=by omega
 have ht1:(tc:Int)<(xc.mz.length:Int):=by omega
 have ht0:(0:Int)<=(tc:Int):=by omega
 have hmk:=xfK m.code.length (by have:=hSm.len;omega)
 have hbW:=xbA w (.cells #[.slice (some ⟨b1,o1,none⟩) X.cz.length cc,.slice ah X.heap.length ch,.int .i64 X.ez] 25) (.cells #[.int .i64 0,.string ⟨#[]⟩,.int .i64 0,.int .i64 0,.slice none 0 0] 49);go_enter Tryz.func22,Tryz.ntmps22;go_wp2_with fail;refine (xi3 X (qc:Int) (tc:Int) _ _ _ (hC.later xau hbW) (hH.later xaz hbW)).mono ?_;rintro e w1 ⟨rfl,hb1⟩;rw[show xfv X.cz (qc:Int) (tc:Int)=some m from hm]
 dsimp only;have hB1:=xae hbW hb1;have zz:=xkv w (.slice (some ⟨b1,o1,none⟩) X.cz.length cc) (.slice ah X.heap.length ch) X.ez;replace zz:=zz.later hb1;have zw:=zz;replace u3:=qzA hB1 u3;replace v0:=qzA hB1 v0;replace v1:=qzA hB1 v1;replace v2:=qzA hB1 v2;replace v3:=qzA hB1 v3;replace v4:=qzA hB1 v4;obtain⟨k0,k1,k2,-,-,-,-,-,-,hzz⟩:=id zz;have kk2:=qzA (xaj w1 (.cells #[.string m.name,.int .i64 m.args,.int .i64 m.temps,.int .i64 m.prim,.slice ak m.code.length ck] 59)) k2;have hbZ:Below w1.heap.size w1 (((w1.alloc (.cells #[.string m.name,.int .i64 m.args,.int .i64 m.temps,.int .i64 m.prim,.slice ak m.code.length ck] 59)).alloc (.cells #[.int .i64 (qc:Int),.string m.name,.int .i64 X.ez,.int .i64 m.temps,.slice none 0 0] 49)).alloc (xeD (List.replicate m.code.length 0))):=xeQ _ _ _ _
 have hL0:MtL (((w1.alloc (.cells #[.string m.name,.int .i64 m.args,.int .i64 m.temps,.int .i64 m.prim,.slice ak m.code.length ck] 59)).alloc (.cells #[.int .i64 (qc:Int),.string m.name,.int .i64 X.ez,.int .i64 m.temps,.slice none 0 0] 49)).alloc (xeD (List.replicate m.code.length 0))) w1.heap.size m (.slice ak m.code.length ck) (qc:Int) X.ez m.temps [] (List.replicate m.code.length 0) none 0 (((w1.alloc (.cells #[.string m.name,.int .i64 m.args,.int .i64 m.temps,.int .i64 m.prim,.slice ak m.code.length ck] 59)).alloc (.cells #[.int .i64 (qc:Int),.string m.name,.int .i64 X.ez,.int .i64 m.temps,.slice none 0 0] 49)).alloc (xeD (List.replicate m.code.length 0))):=xow w1 m (.slice ak m.code.length ck) (qc:Int) X.ez m.temps m.code.length ()
 go_upto_region 6 with (fail)
 clear hmk k0 k1 k2 kk2 u3 v0 v1 v2 v3 v4 hrowC hrm;simp only[Nat.add_assoc,Nat.reduceAdd];generalize hZ:(((w1.alloc (.cells #[.string m.name,.int .i64 m.args,.int .i64 m.temps,.int .i64 m.prim,.slice ak m.code.length ck] 59)).alloc (.cells #[.int .i64 (qc:Int),.string m.name,.int .i64 X.ez,.int .i64 m.temps,.slice none 0 0] 49)).alloc (xeD (List.replicate m.code.length 0)))=Z at *;have hzZ:=zz.later hbZ;have hBZ:=xae hB1 hbZ;have hwb:w.heap.size+2<=w1.heap.size:=zz.sz;clear hZ hbZ hbW hb1 hB1 zz zw;generalize w1.heap.size=bm at *;have hn60:=hSm.len;have m4:=hL0.m4;go_wp2;clear m4
 go_loopg [13,49] m.code.length (fun gk pv iv wr=>MtR X sites Z bm m (.slice ak m.code.length ck) (qc:Int) gk pv iv wr)
 case atStart=>exact⟨0,none,0,by omega,rfl,rfl,by simpa [xaD] using hL0⟩
 case round=>
  clear hL0;obtain⟨j,a,cap,hj,rfl,rfl,hL⟩:=hrel
  by_cases hlt:j<m.code.length
  ·have hxj:m.code[j]?=some m.code[j]:=by simp[hlt]
   obtain⟨bk,ok,hke,hbk,u0,u1,u2,u3,u4,-⟩:=hrowK j _ hxj;subst hke;generalize m.code[j]=x at *;have HXJ:=xb7 hxj;obtain⟨i1,i2,i3,i4⟩:=xdC hX hSm (sites:=sites) (k:=j) (by omega)
   have HBG:=xb7 (xb6 (xs:=X.cz) (sites:=sites) (m:=m) (k:=j) (by omega))
   have HST:=xb7 (fun (hw:xl1 X.cz sites m.code.length (xaD X.cz sites m j).code.length (xaD X.cz sites m j).temps j x=none) {a':Option Addr} {cap':Nat} {W:World} h=>xn6 (Z:=Z) (bm:=bm) (kv:=.slice (some ⟨bk,ok,none⟩) m.code.length ck) (c:=(qc:Int)) (a':=a') (cap':=cap') (W:=W) hxj hw h)
   have HPC:=xb7 (fun (leaf:QM) (hw:xl1 X.cz sites m.code.length (xaD X.cz sites m j).code.length (xaD X.cz sites m j).temps j x=some leaf) {a':Option Addr} {cap':Nat} {W:World} h=>xmV (Z:=Z) (bm:=bm) (kv:=.slice (some ⟨bk,ok,none⟩) m.code.length ck) (c:=(qc:Int)) (a':=a') (cap':=cap') (W:=W) hxj hw h)
   have HWH:Hid (∀ st,xbg X.cz sites j x=st->xl1 X.cz sites m.code.length (xaD X.cz sites m j).code.length (xaD X.cz sites m j).temps j x=match st with | none=>none | some leaf=>if xft (xaD X.cz sites m j).code.length (xaD X.cz sites m j).temps leaf ((m.code.length:Int)-j)=true then some leaf else none):=fun st h=>by subst h;rfl
   generalize xaD X.cz sites m j=s at *;clear hxj hrowK;simp only[Nat.add_zero] at u0;replace u0:=hL.old (by omega) (qzA hBZ u0)
   replace u1:=hL.old (by omega) (qzA hBZ u1)
   replace u2:=hL.old (by omega) (qzA hBZ u2)
   replace u3:=hL.old (by omega) (qzA hBZ u3)
   replace u4:=hL.old (by omega) (qzA hBZ u4)
   have hszr:=hL.sz;have hj1:(j:Int)<(m.code.length:Int):=by omega
   have hj0:(0:Int)<=(j:Int):=by omega
   have hbx:=xaj wr (.cells #[.int .i64 x.op,.int .i64 x.a,.int .i64 x.b,.int .i64 x.c,.string x.name] 57);have hLa:=hL.later hbx;have f4:=hLa.f4;have hg0:(s.begins++List.replicate (m.code.length-j) 0)[j]?=some 0:=by rw[List.getElem?_append_right (by have:=HBG.out;omega),HBG.out,Nat.sub_self,List.getElem?_replicate,if_pos (by omega)]
   have gc:=hLa.g hg0;have gf:=hLa.gf;have hL1:=hLa.setG j (s.code.length:Int);have xbox:(wr.alloc (.cells #[.int .i64 x.op,.int .i64 x.a,.int .i64 x.b,.int .i64 x.c,.string x.name] 57)).heap[wr.heap.size]?=some (.cells #[.int .i64 x.op,.int .i64 x.a,.int .i64 x.b,.int .i64 x.c,.string x.name] 57 (0,0)):=heap_alloc_new _ _;have xbox1:((wr.alloc (.cells #[.int .i64 x.op,.int .i64 x.a,.int .i64 x.b,.int .i64 x.c,.string x.name] 57)).setCell ⟨bm+2,j,none⟩ (.int .i64 (s.code.length:Int))).heap[wr.heap.size]?=some (.cells #[.int .i64 x.op,.int .i64 x.a,.int .i64 x.b,.int .i64 x.c,.string x.name] 57 (0,0)):=by rw[xac (by omega)];exact xbox
   have HBX:Hid (some wr.heap.size≠(Value.slice a s.code.length cap).ownBlock):=fun e=>by have:=(hL.own.lt _ e.symm).2;omega
   have HCAP:=xb7 hL.capOk;clear hL hLa hbx xbox
   go_upto_region 11 with (fail)
   generalize ((wr.alloc (.cells #[.int .i64 x.op,.int .i64 x.a,.int .i64 x.b,.int .i64 x.c,.string x.name] 57)).setCell ⟨bm+2,j,none⟩ (.int .i64 (s.code.length:Int)))=V0 at *;generalize wr.heap.size=bx at *;clear f4 gc gf u0 u1 u2 u3 u4;have k0:=hL1.old (by omega) hzZ.w0
   have k1:=hL1.old (by omega) hzZ.w1
   have k2:=hL1.old (by omega) hzZ.w2
   have y0:V0.cell? ⟨bx,0,none⟩=some (.int .i64 x.op):=by rw[qzB xbox1];rfl
   have y1:V0.cell? ⟨bx,1,none⟩=some (.int .i64 x.a):=by rw[qzB xbox1];rfl
   have y2:V0.cell? ⟨bx,2,none⟩=some (.int .i64 x.b):=by rw[qzB xbox1];rfl
   have y3:V0.cell? ⟨bx,3,none⟩=some (.int .i64 x.c):=by rw[qzB xbox1];rfl
   have y4:V0.cell? ⟨bx,4,none⟩=some (.string x.name):=by rw[qzB xbox1];rfl
   have hBV0:=hL1.below hBZ (by omega)
   go_wp2_with fail;refine (xj0 X sites j x _ _ _ V0 (hC.later xau hBV0) (hH.later xaz hBV0) (hS.later xhV hBV0)).mono ?_;rintro e w3 ⟨leaf,al,cl,rfl,hlf,hlc,hb3⟩;dsimp only;have hbL:=xaj w3 (.cells #[.string leaf.name,.int .i64 leaf.args,.int .i64 leaf.temps,.int .i64 leaf.prim,.slice al leaf.code.length cl] 59);have hb0V:=xae hb3 hbL;have hL:=hL1.later hb0V;have hlc':=hlc.later xaV hbL;have lbox:(w3.alloc (.cells #[.string leaf.name,.int .i64 leaf.args,.int .i64 leaf.temps,.int .i64 leaf.prim,.slice al leaf.code.length cl] 59)).heap[w3.heap.size]?=some (.cells #[.string leaf.name,.int .i64 leaf.args,.int .i64 leaf.temps,.int .i64 leaf.prim,.slice al leaf.code.length cl] 59 (0,0)):=heap_alloc_new _ _
   have xboxV:=xad xbox1 hb0V;have HBLw:Hid (V0.heap.size<=w3.heap.size):=hb3.size;have hblm:bm+3<=w3.heap.size:=by have:=hL1.sz;have:=hb3.size;omega
   have HV0:=xb7 hL1.own;clear k0 k1 k2 y0 y1 y2 y3 y4 xbox1 hlc hL1 hBV0
   go_upto_region 12 with (fail)
   generalize (w3.alloc (.cells #[.string leaf.name,.int .i64 leaf.args,.int .i64 leaf.temps,.int .i64 leaf.prim,.slice al leaf.code.length cl] 59))=V at *;generalize hblw:w3.heap.size=bl at *;have HBL:Hid (some bl≠(Value.slice a s.code.length cap).ownBlock):=fun e=>by have:=(HV0.out.lt _ e.symm).2;have:=HBLw.out;omega
   have xb0:V.cell? ⟨bx,0,none⟩=some (.int .i64 x.op):=by rw[qzB xboxV];rfl
   have xb1:V.cell? ⟨bx,1,none⟩=some (.int .i64 x.a):=by rw[qzB xboxV];rfl
   have xb2:V.cell? ⟨bx,2,none⟩=some (.int .i64 x.b):=by rw[qzB xboxV];rfl
   have xb3:V.cell? ⟨bx,3,none⟩=some (.int .i64 x.c):=by rw[qzB xboxV];rfl
   have xb4:V.cell? ⟨bx,4,none⟩=some (.string x.name):=by rw[qzB xboxV];rfl
   have hszV:=hL.sz;obtain⟨hcp1,hcp2⟩:=HCAP.out
   cases hst:xbg X.cz sites j x with
   | none=>
     have HSTAY:Hid (∀ y,xeN x (j:Int)=y->∀ a' cap' W,MtL Z bm m (.slice (some ⟨bk,ok,none⟩) m.code.length ck) (qc:Int) X.ez s.temps (s.code++[y]) ((s.begins++List.replicate (m.code.length-j) 0).set j (s.code.length:Int)) a' cap' W->MtR X sites Z bm m (.slice (some ⟨bk,ok,none⟩) m.code.length ck) (qc:Int) (m.code.length-(j+1)) (.int .i64 (s.pieces:Int)) (.int .i64 ((j:Int)+1)) W):=fun y hy a' cap' W h=>by subst hy;exact HST.out (HWH.out _ hst) h
     simp only[Option.isSome];clear hst hlf
     go_upto_region 13 with (fail)
     have hSl:∀ w',Below V.heap.size V w'->w'.cell? ⟨bm+1,4,none⟩=some (.slice a s.code.length cap)/\w'.cell? ⟨bx,0,none⟩=some (.int .i64 x.op)/\w'.cell? ⟨bx,1,none⟩=some (.int .i64 x.a)/\w'.cell? ⟨bx,2,none⟩=some (.int .i64 x.b)/\w'.cell? ⟨bx,3,none⟩=some (.int .i64 x.c)/\w'.cell? ⟨bx,4,none⟩=some (.string x.name):=fun w' hb=>⟨(hL.later hb).f4,qzA hb xb0,qzA hb xb1,qzA hb xb2,qzA hb xb3,qzA hb xb4⟩
     have hS0:=hSl _ (Below.refl _ V).drew;refine xat (S:=fun w'=>w'.cell? ⟨bm+1,4,none⟩=some (.slice a s.code.length cap)/\w'.cell? ⟨bx,0,none⟩=some (.int .i64 x.op)/\w'.cell? ⟨bx,1,none⟩=some (.int .i64 x.a)/\w'.cell? ⟨bx,2,none⟩=some (.int .i64 x.b)/\w'.cell? ⟨bx,3,none⟩=some (.int .i64 x.c)/\w'.cell? ⟨bx,4,none⟩=some (.string x.name)) [8] (by kernel_rfl) ?_
     refine tk 0 (⟨some 81,.fieldAddr 49 (.tmp 11) 4,0,_,_,none⟩) (.pointer (some ⟨bm+1,4,none⟩)) rfl (hS0) (fun _ _ _ h=>h) rfl (by kernel_rfl) ?_ ?_
     ·rintro w⟨q0,q1,q2,q3,q4,q5⟩;go_simp
     try simp only[Act.put,qzF,qzG,qzH]
     refine tk 1 (⟨some 82,.load 47 (.tmp 81),47,_,_,none⟩) (.slice a s.code.length cap) rfl (hS0) (fun _ _ _ h=>h) rfl (by kernel_rfl) ?_ ?_
     ·rintro w⟨q0,q1,q2,q3,q4,q5⟩;go_simp
     try simp only[Act.put,qzF,qzG,qzH]
     refine tk 2 (⟨some 83,.load 57 (.tmp 15),57,_,_,none⟩) (IV x) rfl (hS0) (fun _ _ _ h=>h) rfl (by kernel_rfl) ?_ ?_
     ·rintro w⟨q0,q1,q2,q3,q4,q5⟩;go_simp
     try simp only[Act.put,qzF,qzG,qzH]
     refine tk 3 (⟨some 84,.move (.tmp 14),3,_,_,none⟩) (.int .i64 (j:Int)) rfl (hS0) (fun _ _ _ h=>h) rfl (by kernel_rfl) ?_ ?_
     ·rintro w⟨q0,q1,q2,q3,q4,q5⟩;go_simp
     try simp only[Act.put,qzF,qzG,qzH]
     refine xab (rs:=[4]) (by kernel_rfl) (by simp) ?_
     intro i hi;simp only[List.mem_cons,List.not_mem_nil,or_false] at hi;subst hi;refine xaL (o:=⟨some 85,.call ⟨.value (.func 43),#[.tmp 83,.tmp 84],#[57,3]⟩,57,_,_,none⟩) rfl (fun K' hK=>?_)
     refine xa0 rfl 43 (.func 43) #[.tmp 83,.tmp 84] _ rfl #[] rfl #[IV x,.int .i64 (j:Int)] (by simp[Act.eval,Act.put]) (cf26 _ _) ?_
     refine (show Calls Tryz.prog 43 #[IV x,.int .i64 (j:Int)] V.drew _ from (xfu x (j:Int) V.drew).mono ?_)
     rintro e w5 ⟨rfl,hb5⟩;refine⟨_,rfl,?_⟩;have hbV5:Below V.heap.size V w5:=xae (Below.refl _ V).drew hb5;obtain⟨y,hye⟩:∃ y,xeN x (j:Int)=y:=⟨_,rfl⟩;simp only[hye];refine hK _ _ (fun _=>?_) ?_
     ·exact hSl _ hbV5
     clear hK K'
     try simp only[Act.put,qzF,qzG,qzH]
     refine xab (rs:=[5]) (by kernel_rfl) (by simp) ?_
     intro i hi;simp only[List.mem_cons,List.not_mem_nil,or_false] at hi;subst hi;refine xaL (o:=⟨some 86,.buildSlice 47 1 #[(0,.tmp 85)],47,_,_,none⟩) rfl (fun K' hK=>?_)
     go_simp;refine hK _ _ (fun _=>?_) ?_
     ·exact hSl _ (xae hbV5 (xaj _ _))
     clear hK K'
     try simp only[Act.put,qzF,qzG,qzH]
     refine xab (rs:=[6]) (by kernel_rfl) (by simp) ?_
     intro i hi;simp only[List.mem_cons,List.not_mem_nil,or_false] at hi;subst hi;refine xaL (o:=⟨some 87,.call ⟨.builtin .append,#[.tmp 82,.tmp 86],#[47,47]⟩,47,_,_,none⟩) rfl (fun K' hK=>?_)
     have hL5:=(hL.later hbV5).later (xaj w5 (.cells #[.int .i64 y.op,.int .i64 y.a,.int .i64 y.b,.int .i64 y.c,.string y.name] 57));obtain⟨v',w',hrun,r1,r2,r3,r4⟩:=xaE (w:=w5.alloc (.cells #[.int .i64 y.op,.int .i64 y.a,.int .i64 y.b,.int .i64 y.c,.string y.name] 57)) 47 47 57 _ 5 48 Tryz.underlying47 xeK rfl (by omega) (bm+3) s.code.length (.slice a s.code.length cap) (xa9 s.code) hL5.own w5.heap.size [.int .i64 y.op,.int .i64 y.a,.int .i64 y.b,.int .i64 y.c,.string y.name] rfl (heap_alloc_new w5 _) (by intro u hu;simp only[List.mem_cons,List.not_mem_nil,or_false] at hu;rcases hu with h | h | h | h | h<;>(subst h;rfl)) (by unfold maxLen;omega) (by omega) hL5.sz
     obtain⟨a',cap',rfl,-⟩:=r1.form;refine xb9 rfl (.tmp 82) (.tmp 86) 47 rfl (.slice a s.code.length cap) (.slice (some ⟨w5.heap.size,0,none⟩) 1 1) (.slice a' (s.code.length+1) cap') (by simp[Act.eval,Act.put]) (by simp[Act.eval,Act.put]) hrun ?_
     have hO':=OwnI.more (ys:=[y]) r1 rfl rfl;have hN0:=hL5.setC hO' r3;simp only[List.length_append,List.length_cons,List.length_nil,Nat.zero_add] at hN0;have hN:=xb7 hN0;have d4:w'.cell? ⟨bm+1,4,none⟩=some (.slice a s.code.length cap):=by unfold World.cell?;rw[r3.block (bm+1) (by omega)];exact hL5.f4
     have df:∀ o,w'.frozen? ⟨bm+1,o,none⟩=false:=xbB (by rw[r3.block (bm+1) (by omega)];exact hL5.fb)
     have hS6:w'.cell? ⟨bm+1,4,none⟩=some (.slice a s.code.length cap)/\w'.cell? ⟨bx,0,none⟩=some (.int .i64 x.op)/\w'.cell? ⟨bx,1,none⟩=some (.int .i64 x.a)/\w'.cell? ⟨bx,2,none⟩=some (.int .i64 x.b)/\w'.cell? ⟨bx,3,none⟩=some (.int .i64 x.c)/\w'.cell? ⟨bx,4,none⟩=some (.string x.name):=by
      obtain⟨e0,e1,e2,e3,e4,e5⟩:=hSl _ (xae hbV5 (xaj w5 (.cells #[.int .i64 y.op,.int .i64 y.a,.int .i64 y.b,.int .i64 y.c,.string y.name] 57)))
      have hxo:∀ o v,(w5.alloc (.cells #[.int .i64 y.op,.int .i64 y.a,.int .i64 y.b,.int .i64 y.c,.string y.name] 57)).cell? ⟨bx,o,none⟩=some v->w'.cell? ⟨bx,o,none⟩=some v:=fun o v h=>by
       unfold World.cell? at h ⊢;rw[r4 bx (World.block_lt_of_cell? _ ⟨bx,o,none⟩ h) HBX.out]
       exact h
      exact⟨d4,hxo _ _ e1,hxo _ _ e2,hxo _ _ e3,hxo _ _ e4,hxo _ _ e5⟩
     refine hK _ _ (fun _=>?_) ?_
     ·exact hS6
     clear hK K'
     try simp only[Act.put,qzF,qzG,qzH]
     refine tk 7 (⟨some 88,.fieldAddr 49 (.tmp 11) 4,0,_,_,none⟩) (.pointer (some ⟨bm+1,4,none⟩)) rfl (hS6) (fun _ _ _ h=>h) rfl (by kernel_rfl) ?_ ?_
     ·rintro w⟨q0,q1,q2,q3,q4,q5⟩;go_simp
     try simp only[Act.put,qzF,qzG,qzH]
     refine xab (rs:=[8]) (by kernel_rfl) (by simp) ?_
     intro i hi;simp only[List.mem_cons,List.not_mem_nil,or_false] at hi;subst hi;refine xaL (o:=⟨none,.store 47 (.tmp 88) (.tmp 87),0,_,_,none⟩) rfl (fun K' hK=>?_)
     go_simp;refine hK _ _ (fun h=>absurd h (by decide)) ?_
     clear hK K'
     try simp only[Act.put,qzF,qzG,qzH]
     refine xaw (by kernel_rfl) ?_ _
     try simp only[Act.put,qzF,qzG,qzH]
     have HFin:=xb7 ((HSTAY.out y hye _ _ _ hN.out));go_wp2
     go_roundg (m.code.length-(j+1))
     case measure=>omega
     case rel=>exact HFin.out
   | some lf=>
     obtain rfl:=hlf lf hst;obtain⟨hsm,-,-,hop14⟩:=xeM hX hst;have hla:=hsm.args;have hlt':=hsm.temps;have hll:=hsm.len;have hlx:=hsm.code;have lb0:V.cell? ⟨bl,0,none⟩=some (.string leaf.name):=by rw[qzB lbox];rfl
     have lb1:V.cell? ⟨bl,1,none⟩=some (.int .i64 leaf.args):=by rw[qzB lbox];rfl
     have lb2:V.cell? ⟨bl,2,none⟩=some (.int .i64 leaf.temps):=by rw[qzB lbox];rfl
     have lb3:V.cell? ⟨bl,3,none⟩=some (.int .i64 leaf.prim):=by rw[qzB lbox];rfl
     have lb4:V.cell? ⟨bl,4,none⟩=some (.slice al leaf.code.length cl):=by rw[qzB lbox];rfl
     have f0:=hL.f0;have f1:=hL.f1;have f2:=hL.f2;have f3:=hL.f3;have f4:=hL.f4;have m4:=hL.m4;have hwl:IntKind.i64.wrap ((m.code.length:Int)-(j:Int))=(m.code.length:Int)-(j:Int):=xaq (by omega) (by omega)
     simp only[Option.isSome];go_wp2_with fail;refine (show Calls Tryz.prog 42 #[FsV ⟨(qc:Int),m.name,X.ez,s.temps,[]⟩ (.slice a s.code.length cap),MV leaf (.slice al leaf.code.length cl),.int .i64 ((m.code.length:Int)-(j:Int))] V _ from (xiC ⟨(qc:Int),m.name,X.ez,s.temps,[]⟩ a s.code.length cap leaf al cl ((m.code.length:Int)-(j:Int)) V hla hlt' (by simp only;omega) (by omega)).mono ?_)
     rintro e w4 ⟨rfl,hb4⟩;dsimp only;replace hL:=hL.later hb4;replace hlc':=hlc'.later xaV hb4;replace xb0:=qzA hb4 xb0;replace xb1:=qzA hb4 xb1;replace xb2:=qzA hb4 xb2;replace xb3:=qzA hb4 xb3;replace xb4:=qzA hb4 xb4;replace lbox:=xad lbox hb4;clear lb0 lb1 lb2 lb3 lb4 f0 f1 f2 f3 f4 m4 hszV xboxV;have hszV:=hL.sz
     by_cases hroom:xft s.code.length s.temps leaf ((m.code.length:Int)-j)=true
     ·rw[hroom];have HWHO:Hid (xl1 X.cz sites m.code.length s.code.length s.temps j x=some leaf):=by show _=_;rw[HWH.out _ hst];simp[hroom]
      have hks:0<=sites.getD j (-1):=by
       unfold xbg at hst
       split at hst
       ·rename_i h;exact h.2
       ·cases hst
      obtain⟨ks,hksj⟩:∃ ks,sites[j]?=some ks:=by
       cases h:sites[j]? with
       | none=>rw[List.getD_eq_getElem?_getD,h] at hks;simp at hks
       | some ks=>exact⟨ks,rfl⟩
      have HKS:Hid (sites.getD j (-1)=ks):=by show _=_;rw[List.getD_eq_getElem?_getD,hksj];rfl
      have hsl:j<sites.length:=xag hksj;obtain⟨bs,os,hse,-,y0⟩:=hrowS j ks hksj;subst hse;have y0':w.cell? ⟨bs,os+j,none⟩=some (.int .i64 ks):=by simpa [xnl] using y0
      have hbsl:bs<w.heap.size:=World.block_lt_of_cell? w ⟨bs,os+j,none⟩ y0';have y1:=hL.old (by omega) (qzA hBZ y0')
      have hr240:=of_decide_eq_true hroom;have hsj1:(j:Int)<(sites.length:Int):=by omega
      clear hst hlf hroom hb4 hb0V hbL hb3 y0 y0' hksj hks;generalize w4=V at *;have hSl:∀ w',Below V.heap.size V w'->w'.cell? ⟨bs,os+j,none⟩=some (.int .i64 ks)/\w'.cell? ⟨bl,1,none⟩=some (.int .i64 leaf.args):=fun w' hb=>⟨qzA hb y1,by rw[qzB (xad lbox hb)];rfl⟩
      have hS0:=hSl _ (Below.refl _ V).drew
      go_upto_region 14 with (fail)
      refine xat (S:=fun w'=>w'.cell? ⟨bs,os+j,none⟩=some (.int .i64 ks)/\w'.cell? ⟨bl,1,none⟩=some (.int .i64 leaf.args)) [9] (by kernel_rfl) ?_
      refine tk 0 (⟨some 89,.move (.tmp 3),87,_,_,none⟩) (.slice (some ⟨bs,os,none⟩) sites.length cs) rfl (hS0) (fun _ _ _ h=>h) rfl (by kernel_rfl) ?_ ?_
      ·rintro w⟨q0,q1⟩;go_simp
      try simp only[Act.put,qzF,qzG,qzH]
      refine tk 1 (⟨some 90,.move (.tmp 14),3,_,_,none⟩) (.int .i64 (j:Int)) rfl (hS0) (fun _ _ _ h=>h) rfl (by kernel_rfl) ?_ ?_
      ·rintro w⟨q0,q1⟩;go_simp
      try simp only[Act.put,qzF,qzG,qzH]
      refine tk 2 (⟨some 91,.indexAddr 87 (.tmp 89) (.tmp 90),0,_,_,none⟩) (.pointer (some ⟨bs,os+j,none⟩)) rfl (hS0) (fun _ _ _ h=>h) rfl (by kernel_rfl) ?_ ?_
      ·rintro w⟨q0,q1⟩;go_simp
      try simp only[Act.put,qzF,qzG,qzH]
      refine tk 3 (⟨some 92,.load 3 (.tmp 91),3,_,_,none⟩) (.int .i64 ks) rfl (hS0) (fun _ _ _ h=>h) rfl (by kernel_rfl) ?_ ?_
      ·rintro w⟨q0,q1⟩;go_simp
      try simp only[Act.put,qzF,qzG,qzH]
      refine tk 4 (⟨some 93,.fieldAddr 59 (.tmp 16) 1,0,_,_,none⟩) (.pointer (some ⟨bl,1,none⟩)) rfl (hS0) (fun _ _ _ h=>h) rfl (by kernel_rfl) ?_ ?_
      ·rintro w⟨q0,q1⟩;go_simp
      try simp only[Act.put,qzF,qzG,qzH]
      refine tk 5 (⟨some 94,.load 3 (.tmp 93),3,_,_,none⟩) (.int .i64 leaf.args) rfl (hS0) (fun _ _ _ h=>h) rfl (by kernel_rfl) ?_ ?_
      ·rintro w⟨q0,q1⟩;go_simp
      try simp only[Act.put,qzF,qzG,qzH]
      refine tk 6 (⟨some 95,.move (.tmp 14),3,_,_,none⟩) (.int .i64 (j:Int)) rfl (hS0) (fun _ _ _ h=>h) rfl (by kernel_rfl) ?_ ?_
      ·rintro w⟨q0,q1⟩;go_simp
      try simp only[Act.put,qzF,qzG,qzH]
      refine tk 7 (⟨some 96,.build 57 #[(0,.const (.int .i64 18)),(1,.tmp 92),(2,.tmp 94),(3,.tmp 95)],57,_,_,none⟩) (.agg #[.int .i64 18,.int .i64 ks,.int .i64 leaf.args,.int .i64 (j:Int),.string ⟨#[]⟩]) rfl (hS0) (fun _ _ _ h=>h) rfl (by kernel_rfl) ?_ ?_
      ·rintro w⟨q0,q1⟩;go_simp
      try simp only[Act.put,qzF,qzG,qzH]
      refine xab (rs:=[8]) (by kernel_rfl) (by simp) ?_
      intro i hi;simp only[List.mem_cons,List.not_mem_nil,or_false] at hi;subst hi;refine xaL (o:=⟨some 18,.alloc 57,0,_,_,none⟩) rfl (fun K' hK=>?_)
      go_simp;refine hK _ _ (fun _=>?_) ?_
      ·exact hSl _ (xae (Below.refl _ V).drew (xaj _ _))
      clear hK K'
      try simp only[Act.put,qzF,qzG,qzH]
      refine xab (rs:=[9]) (by kernel_rfl) (by simp) ?_
      intro i hi;simp only[List.mem_cons,List.not_mem_nil,or_false] at hi;subst hi;refine xaL (o:=⟨none,.store 57 (.tmp 18) (.tmp 96),0,_,_,none⟩) rfl (fun K' hK=>?_)
      go_simp;refine hK _ _ (fun h=>absurd h (by decide)) ?_
      clear hK K'
      try simp only[Act.put,qzF,qzG,qzH]
      refine xaw (by kernel_rfl) ?_ _
      try simp only[Act.put,qzF,qzG,qzH]
      have hbU:Below V.heap.size V (V.alloc (.cells #[.int .i64 18,.int .i64 ks,.int .i64 leaf.args,.int .i64 (j:Int),.string ⟨#[]⟩] 57)).drew:=(xaj _ _).drew;have gbox:(V.alloc (.cells #[.int .i64 18,.int .i64 ks,.int .i64 leaf.args,.int .i64 (j:Int),.string ⟨#[]⟩] 57)).drew.heap[V.heap.size]?=some (.cells #[.int .i64 18,.int .i64 ks,.int .i64 leaf.args,.int .i64 (j:Int),.string ⟨#[]⟩] 57 (0,0)):=heap_alloc_new V _;have HBQ:Hid (some V.heap.size≠(Value.slice a s.code.length cap).ownBlock):=fun e=>by have:=(hL.own.lt _ e.symm).2;omega
      replace hL:=hL.later hbU;have hlc:=hlc'.later xaV hbU;replace lbox:=xad lbox hbU;clear hSl hS0 y1 hbU hlc' xb0 xb1 xb2 xb3 xb4
      go_upto_region 15 with (fail)
      generalize hU:(V.alloc (.cells #[.int .i64 18,.int .i64 ks,.int .i64 leaf.args,.int .i64 (j:Int),.string ⟨#[]⟩] 57)).drew=U at *;generalize V.heap.size=bq at *
      have hSl:∀ w',Below U.heap.size U w'->w'.cell? ⟨bm+1,0,none⟩=some (.int .i64 (qc:Int))/\w'.cell? ⟨bm+1,1,none⟩=some (.string m.name)/\w'.cell? ⟨bm+1,2,none⟩=some (.int .i64 X.ez)/\w'.cell? ⟨bm+1,3,none⟩=some (.int .i64 s.temps)/\w'.cell? ⟨bm+1,4,none⟩=some (.slice a s.code.length cap)/\w'.cell? ⟨bl,0,none⟩=some (.string leaf.name)/\w'.cell? ⟨bl,1,none⟩=some (.int .i64 leaf.args)/\w'.cell? ⟨bl,2,none⟩=some (.int .i64 leaf.temps)/\w'.cell? ⟨bl,3,none⟩=some (.int .i64 leaf.prim)/\w'.cell? ⟨bl,4,none⟩=some (.slice al leaf.code.length cl)/\w'.cell? ⟨bq,0,none⟩=some (.int .i64 18)/\w'.cell? ⟨bq,1,none⟩=some (.int .i64 ks)/\w'.cell? ⟨bq,2,none⟩=some (.int .i64 leaf.args)/\w'.cell? ⟨bq,3,none⟩=some (.int .i64 (j:Int))/\w'.cell? ⟨bq,4,none⟩=some (.string ⟨#[]⟩):=fun w' hb=>by
       have h1:=hL.later hb;have h2:=xad lbox hb;have h3:=xad gbox hb
       exact⟨h1.f0,h1.f1,h1.f2,h1.f3,h1.f4,by rw[qzB h2];rfl,by rw[qzB h2];rfl,by rw[qzB h2];rfl,by rw[qzB h2];rfl,by rw[qzB h2];rfl,by rw[qzB h3];rfl,by rw[qzB h3];rfl,by rw[qzB h3];rfl,by rw[qzB h3];rfl,by rw[qzB h3];rfl⟩
      have hS0:=hSl _ (Below.refl _ U).drew;refine xat (S:=fun w'=>w'.cell? ⟨bm+1,0,none⟩=some (.int .i64 (qc:Int))/\w'.cell? ⟨bm+1,1,none⟩=some (.string m.name)/\w'.cell? ⟨bm+1,2,none⟩=some (.int .i64 X.ez)/\w'.cell? ⟨bm+1,3,none⟩=some (.int .i64 s.temps)/\w'.cell? ⟨bm+1,4,none⟩=some (.slice a s.code.length cap)/\w'.cell? ⟨bl,0,none⟩=some (.string leaf.name)/\w'.cell? ⟨bl,1,none⟩=some (.int .i64 leaf.args)/\w'.cell? ⟨bl,2,none⟩=some (.int .i64 leaf.temps)/\w'.cell? ⟨bl,3,none⟩=some (.int .i64 leaf.prim)/\w'.cell? ⟨bl,4,none⟩=some (.slice al leaf.code.length cl)/\w'.cell? ⟨bq,0,none⟩=some (.int .i64 18)/\w'.cell? ⟨bq,1,none⟩=some (.int .i64 ks)/\w'.cell? ⟨bq,2,none⟩=some (.int .i64 leaf.args)/\w'.cell? ⟨bq,3,none⟩=some (.int .i64 (j:Int))/\w'.cell? ⟨bq,4,none⟩=some (.string ⟨#[]⟩)) [10] (by kernel_rfl) ?_
      refine tk 0 (⟨some 97,.fieldAddr 49 (.tmp 11) 4,0,_,_,none⟩) (.pointer (some ⟨bm+1,4,none⟩)) rfl (hS0) (fun _ _ _ h=>h) rfl (by kernel_rfl) ?_ ?_
      ·rintro w⟨q0,q1,q2,q3,q4,q5,q6,q7,q8,q9,q10,q11,q12,q13,q14⟩;go_simp
      try simp only[Act.put,qzF,qzG,qzH]
      refine tk 1 (⟨some 98,.load 47 (.tmp 97),47,_,_,none⟩) (.slice a s.code.length cap) rfl (hS0) (fun _ _ _ h=>h) rfl (by kernel_rfl) ?_ ?_
      ·rintro w⟨q0,q1,q2,q3,q4,q5,q6,q7,q8,q9,q10,q11,q12,q13,q14⟩;go_simp
      try simp only[Act.put,qzF,qzG,qzH]
      refine tk 2 (⟨some 99,.load 59 (.tmp 16),59,_,_,none⟩) (MV leaf (.slice al leaf.code.length cl)) rfl (hS0) (fun _ _ _ h=>h) rfl (by kernel_rfl) ?_ ?_
      ·rintro w⟨q0,q1,q2,q3,q4,q5,q6,q7,q8,q9,q10,q11,q12,q13,q14⟩;go_simp
      try simp only[Act.put,qzF,qzG,qzH]
      refine tk 3 (⟨some 100,.load 57 (.tmp 18),57,_,_,none⟩) (IV (ins 18 ks leaf.args (j:Int))) rfl (hS0) (fun _ _ _ h=>h) rfl (by kernel_rfl) ?_ ?_
      ·rintro w⟨q0,q1,q2,q3,q4,q5,q6,q7,q8,q9,q10,q11,q12,q13,q14⟩;go_simp
      try simp only[Act.put,qzF,qzG,qzH]
      refine tk 4 (⟨some 101,.load 49 (.tmp 11),49,_,_,none⟩) (FsV ⟨(qc:Int),m.name,X.ez,s.temps,[]⟩ (.slice a s.code.length cap)) rfl (hS0) (fun _ _ _ h=>h) rfl (by kernel_rfl) ?_ ?_
      ·rintro w⟨q0,q1,q2,q3,q4,q5,q6,q7,q8,q9,q10,q11,q12,q13,q14⟩;go_simp
      try simp only[Act.put,qzF,qzG,qzH]
      refine tk 5 (⟨some 102,.load 59 (.tmp 16),59,_,_,none⟩) (MV leaf (.slice al leaf.code.length cl)) rfl (hS0) (fun _ _ _ h=>h) rfl (by kernel_rfl) ?_ ?_
      ·rintro w⟨q0,q1,q2,q3,q4,q5,q6,q7,q8,q9,q10,q11,q12,q13,q14⟩;go_simp
      try simp only[Act.put,qzF,qzG,qzH]
      refine xab (rs:=[6]) (by kernel_rfl) (by simp) ?_
      intro i hi;simp only[List.mem_cons,List.not_mem_nil,or_false] at hi;subst hi;refine xaL (o:=⟨some 103,.call ⟨.value (.func 45),#[.tmp 101,.tmp 102],#[49,59]⟩,115,_,_,none⟩) rfl (fun K' hK=>?_)
      refine xa0 rfl 45 (.func 45) #[.tmp 101,.tmp 102] _ rfl #[] rfl #[FsV ⟨(qc:Int),m.name,X.ez,s.temps,[]⟩ (.slice a s.code.length cap),MV leaf (.slice al leaf.code.length cl)] (by simp[Act.eval,Act.put]) (cf28 _ _) ?_
      refine (show Calls Tryz.prog 45 #[FsV ⟨(qc:Int),m.name,X.ez,s.temps,[]⟩ (.slice a s.code.length cap),MV leaf (.slice al leaf.code.length cl)] U.drew _ from (xiw ⟨(qc:Int),m.name,X.ez,s.temps,[]⟩ a s.code.length cap leaf al cl U.drew hla hlt' (by simp only;omega) (by omega) hll).mono ?_)
      rintro e w5 ⟨rfl,hb5⟩;refine⟨_,rfl,?_⟩;have hbV5:Below U.heap.size U w5:=xae (Below.refl _ U).drew hb5;simp only;refine hK _ _ (fun _=>?_) ?_
      ·exact hSl _ hbV5
      clear hK K'
      try simp only[Act.put,qzF,qzG,qzH]
      refine xab (rs:=[7]) (by kernel_rfl) (by simp) ?_
      intro i hi;simp only[List.mem_cons,List.not_mem_nil,or_false] at hi;subst hi;refine xaL (o:=⟨some 104,.call ⟨.value (.func 44),#[.tmp 99,.tmp 100,.tmp 103],#[59,57,115]⟩,47,_,_,none⟩) rfl (fun K' hK=>?_)
      refine xa0 rfl 44 (.func 44) #[.tmp 99,.tmp 100,.tmp 103] _ rfl #[] rfl #[MV leaf (.slice al leaf.code.length cl),IV (ins 18 ks leaf.args (j:Int)),PlV s.temps (s.temps+1) (s.temps+1+leaf.args) (xbN leaf s.code.length) (xbN leaf s.code.length+leaf.code.length)] (by simp[Act.eval,Act.put]) (cf27 _ _) ?_
      refine (show Calls Tryz.prog 44 #[MV leaf (.slice al leaf.code.length cl),IV (ins 18 ks leaf.args (j:Int)),PlV s.temps (s.temps+1) (s.temps+1+leaf.args) (xbN leaf s.code.length) (xbN leaf s.code.length+leaf.code.length)] w5 _ from (xla leaf (ins 18 ks leaf.args (j:Int)) s.temps s.code.length _ w5 (hlc.later xaV hbV5) hla hlt' (by omega) (by omega) hll hlx).mono ?_)
      rintro e w6 ⟨ap,cp,rfl,hOp,hb6⟩;refine⟨_,rfl,?_⟩;have hbV6:Below U.heap.size U w6:=xae hbV5 hb6;refine hK _ _ (fun _=>?_) ?_
      ·exact hSl _ hbV6
      clear hK K'
      try simp only[Act.put,qzF,qzG,qzH]
      have HPL:=xb7 (xdo leaf (ins 18 ks leaf.args (j:Int)) s.temps s.code.length);obtain⟨Pc,HPc⟩:∃ Pc,Hid (Pc=xdz leaf (ins 18 ks leaf.args (j:Int)) s.temps s.code.length):=⟨_,rfl⟩;simp only[← HPc.out] at hOp HPL ⊢;refine xab (rs:=[8]) (by kernel_rfl) (by simp) ?_
      intro i hi;simp only[List.mem_cons,List.not_mem_nil,or_false] at hi;subst hi;refine xaL (o:=⟨some 105,.call ⟨.builtin .append,#[.tmp 98,.tmp 104],#[47,47]⟩,47,_,_,none⟩) rfl (fun K' hK=>?_)
      have hL6:=hL.later hbV6;have hp3:0<Pc.length:=by have:=HPL.out;omega
      have hpl:Pc.length<=100:=by have:=HPL.out;omega
      obtain⟨adp,hap⟩:∃ adp,ap=some adp:=by
       obtain⟨-,h | ⟨g',o',c',cur,e,-⟩⟩:=hOp
       ·have:=h.2;omega
       ·cases e;exact⟨_,rfl⟩
      subst hap;obtain⟨v',w',hrun,r1,r2,r3,r4⟩:=xeJ (w:=w6) 47 47 57 _ 5 48 Tryz.underlying47 xeK rfl (by omega) (bm+3) s.code.length (.slice a s.code.length cap) (xa9 s.code) hL6.own adp Pc.length cp hp3 (xa9 Pc) (xdp _) (xmo hOp) (xf0 _) (by unfold maxLen;omega) (by omega) hL6.sz
      obtain⟨a',cap',rfl,-⟩:=r1.form;refine xb9 rfl (.tmp 98) (.tmp 104) 47 rfl (.slice a s.code.length cap) (.slice (some adp) Pc.length cp) (.slice a' (s.code.length+Pc.length) cap') (by simp[Act.eval,Act.put]) (by simp[Act.eval,Act.put]) hrun ?_
      have hO':=OwnI.more (ys:=Pc) r1 rfl rfl;have hN0:=hL6.setC hO' r3;simp only[List.length_append] at hN0;have hN:=xb7 hN0;have d4:w'.cell? ⟨bm+1,4,none⟩=some (.slice a s.code.length cap):=by unfold World.cell?;rw[r3.block (bm+1) (by omega)];exact hL6.f4
      have df:∀ o,w'.frozen? ⟨bm+1,o,none⟩=false:=xbB (by rw[r3.block (bm+1) (by omega)];exact hL6.fb)
      have hS6:w'.cell? ⟨bm+1,0,none⟩=some (.int .i64 (qc:Int))/\w'.cell? ⟨bm+1,1,none⟩=some (.string m.name)/\w'.cell? ⟨bm+1,2,none⟩=some (.int .i64 X.ez)/\w'.cell? ⟨bm+1,3,none⟩=some (.int .i64 s.temps)/\w'.cell? ⟨bm+1,4,none⟩=some (.slice a s.code.length cap)/\w'.cell? ⟨bl,0,none⟩=some (.string leaf.name)/\w'.cell? ⟨bl,1,none⟩=some (.int .i64 leaf.args)/\w'.cell? ⟨bl,2,none⟩=some (.int .i64 leaf.temps)/\w'.cell? ⟨bl,3,none⟩=some (.int .i64 leaf.prim)/\w'.cell? ⟨bl,4,none⟩=some (.slice al leaf.code.length cl)/\w'.cell? ⟨bq,0,none⟩=some (.int .i64 18)/\w'.cell? ⟨bq,1,none⟩=some (.int .i64 ks)/\w'.cell? ⟨bq,2,none⟩=some (.int .i64 leaf.args)/\w'.cell? ⟨bq,3,none⟩=some (.int .i64 (j:Int))/\w'.cell? ⟨bq,4,none⟩=some (.string ⟨#[]⟩):=by
       obtain⟨e0,e1,e2,e3,e4,l0,l1,l2,l3,l4,g0,g1,g2,g3,g4⟩:=hSl _ hbV6
       have hxo:∀ b,some b≠(Value.slice a s.code.length cap).ownBlock->∀ o v,w6.cell? ⟨b,o,none⟩=some v->w'.cell? ⟨b,o,none⟩=some v:=fun b hb o v h=>by
        unfold World.cell? at h ⊢;rw[r4 b (World.block_lt_of_cell? _ ⟨b,o,none⟩ h) hb]
        exact h
       have hf:∀ o v,w6.cell? ⟨bm+1,o,none⟩=some v->w'.cell? ⟨bm+1,o,none⟩=some v:=fun o v h=>by unfold World.cell? at h ⊢;rw[r3.block (bm+1) (by omega)];exact h
       exact⟨hf _ _ e0,hf _ _ e1,hf _ _ e2,hf _ _ e3,hf _ _ e4,hxo _ HBL.out _ _ l0,hxo _ HBL.out _ _ l1,hxo _ HBL.out _ _ l2,hxo _ HBL.out _ _ l3,hxo _ HBL.out _ _ l4,hxo _ HBQ.out _ _ g0,hxo _ HBQ.out _ _ g1,hxo _ HBQ.out _ _ g2,hxo _ HBQ.out _ _ g3,hxo _ HBQ.out _ _ g4⟩
      refine hK _ _ (fun _=>?_) ?_
      ·exact hS6
      clear hK K'
      try simp only[Act.put,qzF,qzG,qzH]
      refine tk 9 (⟨some 106,.fieldAddr 49 (.tmp 11) 4,0,_,_,none⟩) (.pointer (some ⟨bm+1,4,none⟩)) rfl (hS6) (fun _ _ _ h=>h) rfl (by kernel_rfl) ?_ ?_
      ·rintro w⟨q0,q1,q2,q3,q4,q5,q6,q7,q8,q9,q10,q11,q12,q13,q14⟩;go_simp
      try simp only[Act.put,qzF,qzG,qzH]
      refine xab (rs:=[10]) (by kernel_rfl) (by simp) ?_
      intro i hi;simp only[List.mem_cons,List.not_mem_nil,or_false] at hi;subst hi;refine xaL (o:=⟨none,.store 47 (.tmp 106) (.tmp 105),0,_,_,none⟩) rfl (fun K' hK=>?_)
      go_simp;refine hK _ _ (fun h=>absurd h (by decide)) ?_
      clear hK K'
      try simp only[Act.put,qzF,qzG,qzH]
      refine xaw (by kernel_rfl) ?_ _
      try simp only[Act.put,qzF,qzG,qzH]
      have hMN:=hN.out;have f3:=hMN.f3;have ff:=hMN.ff;obtain⟨-,-,-,-,-,-,l1',l2',-,-,-,-,-,-,-⟩:=hS6;have l1:=xoj (b':=bm+1) (o':=4) (u:=.slice a' (s.code.length+Pc.length) cap') l1' (by omega)
      have l2:=xoj (b':=bm+1) (o':=4) (u:=.slice a' (s.code.length+Pc.length) cap') l2' (by omega)
      have h1:IntKind.i64.wrap (1+leaf.args)=1+leaf.args:=xaq (by omega) (by omega)
      have h2:IntKind.i64.wrap (1+leaf.args+leaf.temps)=1+leaf.args+leaf.temps:=xaq (by omega) (by omega)
      have h3:IntKind.i64.wrap (s.temps+(1+leaf.args+leaf.temps))=s.temps+1+leaf.args+leaf.temps:=by rw[xaq (by omega) (by omega)];omega
      have h4:IntKind.i64.wrap ((s.pieces:Int)+1)=(s.pieces:Int)+1:=xaq (by omega) (by omega)
      have HFin:=xb7 (HPC.out leaf HWHO.out (by rw[HKS.out,← HPc.out];exact hMN.setT (s.temps+1+leaf.args+leaf.temps)))
      generalize (w'.setCell ⟨bm+1,4,none⟩ (.slice a' (s.code.length+Pc.length) cap'))=W6 at *;clear hN hMN hN0 hL6 hOp r1 r2 r3 r4 hO' d4 df l1' l2' hSl hS0;go_wp2
      go_roundg (m.code.length-(j+1))
      case measure=>omega
      case rel=>exact HFin.out
     ·have hroom':xft s.code.length s.temps leaf ((m.code.length:Int)-j)=false:=by simpa using hroom
      rw[hroom'];have HSTAY:Hid (∀ y,xeN x (j:Int)=y->∀ a' cap' W,MtL Z bm m (.slice (some ⟨bk,ok,none⟩) m.code.length ck) (qc:Int) X.ez s.temps (s.code++[y]) ((s.begins++List.replicate (m.code.length-j) 0).set j (s.code.length:Int)) a' cap' W->MtR X sites Z bm m (.slice (some ⟨bk,ok,none⟩) m.code.length ck) (qc:Int) (m.code.length-(j+1)) (.int .i64 (s.pieces:Int)) (.int .i64 ((j:Int)+1)) W):=fun y hy a' cap' W h=>by subst hy;exact HST.out (by rw[HWH.out _ hst];simp[hroom']) h
      clear hst hlf hroom hroom' hb4 hb0V hbL hb3;generalize w4=V at *
      go_upto_region 13 with (fail)
      have hSl:∀ w',Below V.heap.size V w'->w'.cell? ⟨bm+1,4,none⟩=some (.slice a s.code.length cap)/\w'.cell? ⟨bx,0,none⟩=some (.int .i64 x.op)/\w'.cell? ⟨bx,1,none⟩=some (.int .i64 x.a)/\w'.cell? ⟨bx,2,none⟩=some (.int .i64 x.b)/\w'.cell? ⟨bx,3,none⟩=some (.int .i64 x.c)/\w'.cell? ⟨bx,4,none⟩=some (.string x.name):=fun w' hb=>⟨(hL.later hb).f4,qzA hb xb0,qzA hb xb1,qzA hb xb2,qzA hb xb3,qzA hb xb4⟩
      have hS0:=hSl _ (Below.refl _ V).drew;refine xat (S:=fun w'=>w'.cell? ⟨bm+1,4,none⟩=some (.slice a s.code.length cap)/\w'.cell? ⟨bx,0,none⟩=some (.int .i64 x.op)/\w'.cell? ⟨bx,1,none⟩=some (.int .i64 x.a)/\w'.cell? ⟨bx,2,none⟩=some (.int .i64 x.b)/\w'.cell? ⟨bx,3,none⟩=some (.int .i64 x.c)/\w'.cell? ⟨bx,4,none⟩=some (.string x.name)) [8] (by kernel_rfl) ?_
      refine tk 0 (⟨some 81,.fieldAddr 49 (.tmp 11) 4,0,_,_,none⟩) (.pointer (some ⟨bm+1,4,none⟩)) rfl (hS0) (fun _ _ _ h=>h) rfl (by kernel_rfl) ?_ ?_
      ·rintro w⟨q0,q1,q2,q3,q4,q5⟩;go_simp
      try simp only[Act.put,qzF,qzG,qzH]
      refine tk 1 (⟨some 82,.load 47 (.tmp 81),47,_,_,none⟩) (.slice a s.code.length cap) rfl (hS0) (fun _ _ _ h=>h) rfl (by kernel_rfl) ?_ ?_
      ·rintro w⟨q0,q1,q2,q3,q4,q5⟩;go_simp
      try simp only[Act.put,qzF,qzG,qzH]
      refine tk 2 (⟨some 83,.load 57 (.tmp 15),57,_,_,none⟩) (IV x) rfl (hS0) (fun _ _ _ h=>h) rfl (by kernel_rfl) ?_ ?_
      ·rintro w⟨q0,q1,q2,q3,q4,q5⟩;go_simp
      try simp only[Act.put,qzF,qzG,qzH]
      refine tk 3 (⟨some 84,.move (.tmp 14),3,_,_,none⟩) (.int .i64 (j:Int)) rfl (hS0) (fun _ _ _ h=>h) rfl (by kernel_rfl) ?_ ?_
      ·rintro w⟨q0,q1,q2,q3,q4,q5⟩;go_simp
      try simp only[Act.put,qzF,qzG,qzH]
      refine xab (rs:=[4]) (by kernel_rfl) (by simp) ?_
      intro i hi;simp only[List.mem_cons,List.not_mem_nil,or_false] at hi;subst hi;refine xaL (o:=⟨some 85,.call ⟨.value (.func 43),#[.tmp 83,.tmp 84],#[57,3]⟩,57,_,_,none⟩) rfl (fun K' hK=>?_)
      refine xa0 rfl 43 (.func 43) #[.tmp 83,.tmp 84] _ rfl #[] rfl #[IV x,.int .i64 (j:Int)] (by simp[Act.eval,Act.put]) (cf26 _ _) ?_
      refine (show Calls Tryz.prog 43 #[IV x,.int .i64 (j:Int)] V.drew _ from (xfu x (j:Int) V.drew).mono ?_)
      rintro e w5 ⟨rfl,hb5⟩;refine⟨_,rfl,?_⟩;have hbV5:Below V.heap.size V w5:=xae (Below.refl _ V).drew hb5;obtain⟨y,hye⟩:∃ y,xeN x (j:Int)=y:=⟨_,rfl⟩;simp only[hye];refine hK _ _ (fun _=>?_) ?_
      ·exact hSl _ hbV5
      clear hK K'
      try simp only[Act.put,qzF,qzG,qzH]
      refine xab (rs:=[5]) (by kernel_rfl) (by simp) ?_
      intro i hi;simp only[List.mem_cons,List.not_mem_nil,or_false] at hi;subst hi;refine xaL (o:=⟨some 86,.buildSlice 47 1 #[(0,.tmp 85)],47,_,_,none⟩) rfl (fun K' hK=>?_)
      go_simp;refine hK _ _ (fun _=>?_) ?_
      ·exact hSl _ (xae hbV5 (xaj _ _))
      clear hK K'
      try simp only[Act.put,qzF,qzG,qzH]
      refine xab (rs:=[6]) (by kernel_rfl) (by simp) ?_
      intro i hi;simp only[List.mem_cons,List.not_mem_nil,or_false] at hi;subst hi;refine xaL (o:=⟨some 87,.call ⟨.builtin .append,#[.tmp 82,.tmp 86],#[47,47]⟩,47,_,_,none⟩) rfl (fun K' hK=>?_)
      have hL5:=(hL.later hbV5).later (xaj w5 (.cells #[.int .i64 y.op,.int .i64 y.a,.int .i64 y.b,.int .i64 y.c,.string y.name] 57));obtain⟨v',w',hrun,r1,r2,r3,r4⟩:=xaE (w:=w5.alloc (.cells #[.int .i64 y.op,.int .i64 y.a,.int .i64 y.b,.int .i64 y.c,.string y.name] 57)) 47 47 57 _ 5 48 Tryz.underlying47 xeK rfl (by omega) (bm+3) s.code.length (.slice a s.code.length cap) (xa9 s.code) hL5.own w5.heap.size [.int .i64 y.op,.int .i64 y.a,.int .i64 y.b,.int .i64 y.c,.string y.name] rfl (heap_alloc_new w5 _) (by intro u hu;simp only[List.mem_cons,List.not_mem_nil,or_false] at hu;rcases hu with h | h | h | h | h<;>(subst h;rfl)) (by unfold maxLen;omega) (by omega) hL5.sz
      obtain⟨a',cap',rfl,-⟩:=r1.form;refine xb9 rfl (.tmp 82) (.tmp 86) 47 rfl (.slice a s.code.length cap) (.slice (some ⟨w5.heap.size,0,none⟩) 1 1) (.slice a' (s.code.length+1) cap') (by simp[Act.eval,Act.put]) (by simp[Act.eval,Act.put]) hrun ?_
      have hO':=OwnI.more (ys:=[y]) r1 rfl rfl;have hN0:=hL5.setC hO' r3;simp only[List.length_append,List.length_cons,List.length_nil,Nat.zero_add] at hN0;have hN:=xb7 hN0;have d4:w'.cell? ⟨bm+1,4,none⟩=some (.slice a s.code.length cap):=by unfold World.cell?;rw[r3.block (bm+1) (by omega)];exact hL5.f4
      have df:∀ o,w'.frozen? ⟨bm+1,o,none⟩=false:=xbB (by rw[r3.block (bm+1) (by omega)];exact hL5.fb)
      have hS6:w'.cell? ⟨bm+1,4,none⟩=some (.slice a s.code.length cap)/\w'.cell? ⟨bx,0,none⟩=some (.int .i64 x.op)/\w'.cell? ⟨bx,1,none⟩=some (.int .i64 x.a)/\w'.cell? ⟨bx,2,none⟩=some (.int .i64 x.b)/\w'.cell? ⟨bx,3,none⟩=some (.int .i64 x.c)/\w'.cell? ⟨bx,4,none⟩=some (.string x.name):=by
       obtain⟨e0,e1,e2,e3,e4,e5⟩:=hSl _ (xae hbV5 (xaj w5 (.cells #[.int .i64 y.op,.int .i64 y.a,.int .i64 y.b,.int .i64 y.c,.string y.name] 57)))
       have hxo:∀ o v,(w5.alloc (.cells #[.int .i64 y.op,.int .i64 y.a,.int .i64 y.b,.int .i64 y.c,.string y.name] 57)).cell? ⟨bx,o,none⟩=some v->w'.cell? ⟨bx,o,none⟩=some v:=fun o v h=>by
        unfold World.cell? at h ⊢;rw[r4 bx (World.block_lt_of_cell? _ ⟨bx,o,none⟩ h) HBX.out]
        exact h
       exact⟨d4,hxo _ _ e1,hxo _ _ e2,hxo _ _ e3,hxo _ _ e4,hxo _ _ e5⟩
      refine hK _ _ (fun _=>?_) ?_
      ·exact hS6
      clear hK K'
      try simp only[Act.put,qzF,qzG,qzH]
      refine tk 7 (⟨some 88,.fieldAddr 49 (.tmp 11) 4,0,_,_,none⟩) (.pointer (some ⟨bm+1,4,none⟩)) rfl (hS6) (fun _ _ _ h=>h) rfl (by kernel_rfl) ?_ ?_
      ·rintro w⟨q0,q1,q2,q3,q4,q5⟩;go_simp
      try simp only[Act.put,qzF,qzG,qzH]
      refine xab (rs:=[8]) (by kernel_rfl) (by simp) ?_
      intro i hi;simp only[List.mem_cons,List.not_mem_nil,or_false] at hi;subst hi;refine xaL (o:=⟨none,.store 47 (.tmp 88) (.tmp 87),0,_,_,none⟩) rfl (fun K' hK=>?_)
      go_simp;refine hK _ _ (fun h=>absurd h (by decide)) ?_
      clear hK K'
      try simp only[Act.put,qzF,qzG,qzH]
      refine xaw (by kernel_rfl) ?_ _
      try simp only[Act.put,qzF,qzG,qzH]
      have HFin:=xb7 ((HSTAY.out y hye _ _ _ hN.out));go_wp2
      go_roundg (m.code.length-(j+1))
      case measure=>omega
      case rel=>exact HFin.out
  ·obtain rfl:j=m.code.length:=by omega
   have HFM:Hid (xlc X (qc:Int) m sites=if (xaD X.cz sites m m.code.length).pieces=0 then (xc7,false) else (⟨(qc:Int),m.name,X.ez,(xaD X.cz sites m m.code.length).temps,xeO (xaD X.cz sites m m.code.length).begins m.code (xaD X.cz sites m m.code.length).code m.code.length⟩,true)):=rfl;have HBG:=xb7 (xb6 (xs:=X.cz) (sites:=sites) (m:=m) (k:=m.code.length) (qzC _));have HPS:=xb7 (xeC (xs:=X.cz) (sites:=sites) (m:=m) m.code.length);have HIN:=xb7 (xiQ (xs:=X.cz) (sites:=sites) (m:=m) m.code.length);have HNM:=xb7 (xjp hC (sites:=sites) (xph hC hm) m.code.length);obtain⟨i1,i2,i3,i4⟩:=xdC hX hSm (sites:=sites) (k:=m.code.length) (qzC _)
   simp only[Nat.sub_self,List.replicate_zero,List.append_nil] at hL;generalize xaD X.cz sites m m.code.length=s at *;have hBr:=hL.below hBZ (by omega)
   have q0:=hL.old (by omega) hzZ.z0
   have q1:=hL.old (by omega) hzZ.z1
   have q2:=hL.old (by omega) hzZ.z2
   have q3:=hL.old (by omega) hzZ.z3
   have q4:=hL.old (by omega) hzZ.z4
   have qf:∀ o,wr.frozen? ⟨w.heap.size+1,o,none⟩=false:=fun o=>by
    have:=hzZ.zf o;unfold World.frozen? at this ⊢;rw[hL.fix (w.heap.size+1) (by omega)];exact this
   by_cases hp:s.pieces=0
   ·have HZ:Hid (xlc X (qc:Int) m sites=(xc7,false)):=by show _=_;rw[HFM.out,if_pos hp]
    have hp':((s.pieces:Int) == 0)=true:=by simp[hp]
    have HQ:=xb7 (xlu (U:=wr) hBr);clear HFM hp;go_wp2;rw[HZ.out];refine bodyPost_ret (v:=.tuple #[FsV xc7 (.slice none 0 0),.bool false]) ?_ rfl HQ.out
    simp[results,Tryz.results22,go_sem,q0,q1,q2,q3,q4,xc7]
   ·have hpn:((s.pieces:Int) == 0)=false:=by simp;omega
    have hcl:0<s.code.length:=by have:=HPS.out;omega
    have HZ:Hid (xlc X (qc:Int) m sites=(⟨(qc:Int),m.name,X.ez,s.temps,xeO s.begins m.code s.code m.code.length⟩,true)):=by show _=_;rw[HFM.out,if_neg hp]
    obtain⟨g,o,hao⟩:∃ g o,a=some ⟨g,o,none⟩:=by
     obtain⟨-,h | ⟨g',o',c',cur,e,-⟩⟩:=hL.own
     ·have:=h.2;omega
     ·cases e;exact⟨_,_,rfl⟩
    subst hao;have hgo:=hL.own.lt g rfl;have f4:=hL.f4;have m4:=hL.m4
    have hints:xcL (fun b=>b=bm+2) wr (.slice (some ⟨bm+2,0,none⟩) m.code.length m.code.length) s.begins:=by
     have hl:=HBG.out;refine⟨_,_,by rw[hl],by omega,by unfold maxLen;omega,by omega,fun i x hx=>⟨bm+2,0,rfl,rfl,?_⟩⟩
     show wr.cell? ⟨bm+2,0+i*1+0,none⟩=_
     rw[show 0+i*1+0=i by omega]
     exact hL.g hx
    clear hp HFM HPS;go_wp2_with fail;refine (xma s.code m.code s.begins g o cap (bm+3) _ _ wr hL.own (hco.later xaV hBr) hints (fun b hb=>by omega) (fun b hb=>by omega) HBG.out hn60 HIN.out).mono ?_
    rintro e w5 ⟨rfl,hO5,hb5,hblk5⟩;dsimp only;have hs5:=hb5.size;have hszw:=hL.sz;have hfb5:w5.heap[bm+1]?=some (.cells #[.int .i64 (qc:Int),.string m.name,.int .i64 X.ez,.int .i64 s.temps,.slice (some ⟨g,o,none⟩) s.code.length cap] 49 (0,0)):=by rw[hblk5 (bm+1) (by omega) (by omega)];exact hL.fb
    have hold:∀ k v,wr.cell? ⟨w.heap.size+1,k,none⟩=some v->w5.cell? ⟨w.heap.size+1,k,none⟩=some v:=fun k v h=>by unfold World.cell? at h ⊢;rw[hblk5 (w.heap.size+1) (by omega) (by omega)];exact h
    replace q0:=hold _ _ q0;replace q1:=hold _ _ q1;replace q2:=hold _ _ q2;replace q3:=hold _ _ q3;replace q4:=hold _ _ q4;replace qf:∀ o,w5.frozen? ⟨w.heap.size+1,o,none⟩=false:=fun o=>by have:=qf o;unfold World.frozen? at this ⊢;rw[hblk5 (w.heap.size+1) (by omega) (by omega)];exact this
    have p0:w5.cell? ⟨bm+1,0,none⟩=some (.int .i64 (qc:Int)):=by rw[qzB hfb5];rfl
    have p1:w5.cell? ⟨bm+1,1,none⟩=some (.string m.name):=by rw[qzB hfb5];rfl
    have p2:w5.cell? ⟨bm+1,2,none⟩=some (.int .i64 X.ez):=by rw[qzB hfb5];rfl
    have p3:w5.cell? ⟨bm+1,3,none⟩=some (.int .i64 s.temps):=by rw[qzB hfb5];rfl
    have p4:w5.cell? ⟨bm+1,4,none⟩=some (.slice (some ⟨g,o,none⟩) s.code.length cap):=by rw[qzB hfb5];rfl
    have hLed:=xee s.begins m.code s.code m.code.length;have hrow5:xaK (fun b=>w.heap.size+2<=b/\b<w5.heap.size) w5 (.slice (some ⟨g,o,none⟩) (xeO s.begins m.code s.code m.code.length).length cap) (xeO s.begins m.code s.code m.code.length):=xoU hO5 (xm7 HNM.out _) (fun b h1 h2=>⟨by omega,h2⟩) (by omega)
    have hB5:Below w.heap.size w w5:=hBr.trans ⟨hb5.os,hb5.tape,hb5.output,hb5.size,fun b hb=>hb5.block b (by omega)⟩
    have HQ:=xb7 (xnm (U:=w5) (r:=(⟨(qc:Int),m.name,X.ez,s.temps,xeO s.begins m.code s.code m.code.length⟩,true)) hB5 hrow5);simp only[hLed] at HQ;clear hold hrow5 hO5 hfb5 hblk5 hb5 f4 m4 hints hLed;go_wp2;rw[HZ.out];refine bodyPost_ret (v:=.tuple #[FsV ⟨(qc:Int),m.name,X.ez,s.temps,xeO s.begins m.code s.code m.code.length⟩ (.slice (some ⟨g,o,none⟩) s.code.length cap),.bool true]) ?_ rfl HQ.out
    simp[results,Tryz.results22,go_sem,q0,q1,q2,q3,q4]
def xcu (X:QW)(c k:Int)(sites:List Int):Fst × Bool:=match xaJ X.cz c k with
 | none=>(xc7,false)
 | some m=>xlc X c m sites
theorem xif {P Q:Nat->Prop}(X:QW)(c k:Int)(hm:xaJ X.cz c k=none)(sites:List Int)(cv hv sv:Value)(w:World)(hC:xaf P w cv X.cz)(hH:xaA P w hv X.heap)(hS:xcL Q w sv sites) :
  Calls Tryz.prog 22 #[WV cv hv X.ez,.int .i64 c,.int .i64 k,sv] w fun e w'=>xhW w (xc7,false) e w':=by
 obtain⟨ac,cc,rfl,-,hcc,-,-⟩:=id hC;obtain⟨ah,ch,rfl,-⟩:=id hH;have hbW:=xbA w (.cells #[.slice ac X.cz.length cc,.slice ah X.heap.length ch,.int .i64 X.ez] 25) (.cells #[.int .i64 0,.string ⟨#[]⟩,.int .i64 0,.int .i64 0,.slice none 0 0] 49);go_enter Tryz.func22,Tryz.ntmps22;go_wp2_with fail;refine (xi3 X c k _ _ _ (hC.later xau hbW) (hH.later xaz hbW)).mono ?_;rintro e w1 ⟨rfl,hb1⟩;rw[show xfv X.cz c k=none from hm]
 dsimp only;have hB1:=xae hbW hb1;have zz:=xkv w (.slice ac X.cz.length cc) (.slice ah X.heap.length ch) X.ez;replace zz:=zz.later hb1;obtain⟨k0,k1,k2,q0,q1,q2,q3,q4,qf,hzz⟩:=id zz;have HQ:=xb7 (xlu (U:=w1) hB1);go_wp2;refine bodyPost_ret (v:=.tuple #[FsV xc7 (.slice none 0 0),.bool false]) ?_ rfl HQ.out
 simp[results,Tryz.results22,go_sem,q0,q1,q2,q3,q4,xc7]
theorem xdD {P Q:Nat->Prop}(X:QW)(hX:xaW X=0)(c k:Int)(sites:List Int)(cv hv sv:Value)(w:World)(hC:xaf P w cv X.cz)(hH:xaA P w hv X.heap)(hS:xcL Q w sv sites) :
  Calls Tryz.prog 22 #[WV cv hv X.ez,.int .i64 c,.int .i64 k,sv] w fun e w'=>xhW w (xcu X c k sites) e w':=by
 unfold xcu
 cases hm:xaJ X.cz c k with
 | none=>exact xif X c k hm sites cv hv sv w hC hH hS
 | some m=>exact xiI X hX c k m hm sites cv hv sv w hC hH hS
def xhn (xs:List QC)(c k:Int):Option QM:=(xbo xs c).bind fun x=>if 0<=k then x.mz[k.toNat]? else none
theorem xge {xs:List QC}{c k:Int}{m:QM}(h:xhn xs c k=some m):∃ (q t:Nat) (x:QC),c=(q:Int)/\k=(t:Int)/\xs[q]?=some x/\x.mz[t]?=some m:=by
 unfold xhn at h
 cases hx:xbo xs c with
 | none=>rw[hx] at h;cases h
 | some x=>
  rw[hx] at h;obtain⟨q,rfl,hq⟩:=xa4 hx;simp only[Option.bind_some] at h
  split at h
  ·rename_i hk
   exact⟨q,k.toNat,x,rfl,by omega,hq,h⟩
  ·cases h
theorem xmj {xs:List QC}{c k:Int}(h:xhn xs c k=none):c<0\/(xs.length:Int)<=c\/∃ (q:Nat) (x:QC),c=(q:Int)/\xs[q]?=some x/\(k<0\/(x.mz.length:Int)<=k):=by
 unfold xhn at h
 cases hx:xbo xs c with
 | none=>
  have:=xcR (xs:=xs) (c:=c);rw[hx] at this
  simp[xfM] at this
  omega
 | some x=>
  rw[hx] at h;obtain⟨q,rfl,hq⟩:=xa4 hx;simp only[Option.bind_some] at h
  right;right
  refine⟨q,x,rfl,hq,?_⟩
  by_cases hk:0<=k
  ·rw[if_pos hk] at h;have:=List.getElem?_eq_none_iff.1 h
   omega
  ·omega
def xni (X:QW)(t:List QT)(c:Int)(m:QM)(j:Nat)(i:QI):Int:=if i.op == 14 then xfT X t ⟨c,m.name,j⟩ i.name i.a else -1
def xbp (X:QW)(t:List QT)(c k:Int):List Int:=match xhn X.cz c k with
 | some m=>m.code.mapIdx (xni X t c m)
 | none=>[]
theorem xm6 {P:Nat->Prop}(X:QW)(c k:Int)(cv hv:Value)(w:World)(hC:xaf P w cv X.cz)(hH:xaA P w hv X.heap):Calls Tryz.prog 47 #[WV cv hv X.ez,.int .i64 c,.int .i64 k] w fun e w'=>e=.returned (.bool (xhn X.cz c k).isSome)/\Below w.heap.size w w':=by
 obtain⟨ad,cap,rfl,hl,hcap,-,hrow⟩:=hC;obtain⟨ah,ch,rfl,-⟩:=hH
 cases hm:xhn X.cz c k with
 | none=>
  rcases xmj hm with h | h | ⟨q,x,rfl,hx,h⟩
  ·have hd:decide (0<=c)=false:=by simpa using h
   clear hrow;go_enter Tryz.func47,Tryz.ntmps47;go_wp2
   go_ret
   exact⟨rfl,xaj _ _⟩
  ·have hd:decide (c<(X.cz.length:Int))=false:=by simpa using h
   have hd0:decide (0<=c)=true:=by simp;omega
   clear hrow;go_enter Tryz.func47,Tryz.ntmps47;go_wp2
   go_ret
   exact⟨rfl,xaj _ _⟩
  ·have hq:=xag hx;have hq0:(0:Int)<=(q:Int):=by omega
   have hq1:(q:Int)<(X.cz.length:Int):=by omega
   obtain⟨b,o,rfl,-,-,-,-,-,mv,hv3,hms⟩:=hrow q x hx;obtain⟨am,cm,rfl,-⟩:=hms;have k3:=fun y=>qzA (xaj w y) hv3
   clear hrow hx hm
   by_cases h0:k<0
   ·have hd:decide (0<=k)=false:=by simpa using h0
    go_enter Tryz.func47,Tryz.ntmps47;go_wp2
    go_ret
    exact⟨rfl,xaj _ _⟩
   ·have hd0:decide (0<=k)=true:=by simp;omega
    have hd:decide (k<(x.mz.length:Int))=false:=by simp;omega
    go_enter Tryz.func47,Tryz.ntmps47;go_wp2
    go_ret
    exact⟨rfl,xaj _ _⟩
 | some m=>
  obtain⟨q,t,x,rfl,rfl,hx,hy⟩:=xge hm;have hq:=xag hx;have ht:=xag hy;have hq0:(0:Int)<=(q:Int):=by omega
  have hq1:(q:Int)<(X.cz.length:Int):=by omega
  have ht0:(0:Int)<=(t:Int):=by omega
  have ht1:(t:Int)<(x.mz.length:Int):=by omega
  obtain⟨b,o,rfl,-,-,-,-,-,mv,hv3,hms⟩:=hrow q x hx;obtain⟨am,cm,rfl,-⟩:=hms;have k3:=fun y=>qzA (xaj w y) hv3
  clear hrow hx hm hy;go_enter Tryz.func47,Tryz.ntmps47;go_wp2
  go_ret
  exact⟨rfl,xaj _ _⟩
theorem xms {P:Nat->Prop}(p4 p5 p6 p9:Value)(f:Nat->QI->Int)(xs:List QI)(v:Value)(w:World)(hh:xaK P w v xs)
  (hF:∀ (j:Nat) (x:QI) (w':World),Below w.heap.size w w'->Calls Tryz.prog 49 #[.int .i64 j,IV x,p4,p5,p6,p9] w' fun e w''=>e=.returned (.int .i64 (f j x))/\Below w'.heap.size w' w'') :
  Calls Tryz.prog 48 #[v,.func (.func 49) #[] #[p4,p5,p6,p9]] w fun e w'=>e=.returned (.slice (some ⟨w.heap.size,0,none⟩) xs.length xs.length)/\w'.heap[w.heap.size]?=some (xeD (xs.mapIdx fun j x=>if x.op == 14 then f j x else -1))/\Below w.heap.size w w':=by
 obtain⟨ad,cap,rfl,hl,hcap,hby,hrow⟩:=hh;have hmk:=xfK xs.length (by omega)
 have hb0:=xaj w (xeD (List.replicate xs.length 0));have hg0:=heap_alloc_new w (xeD (List.replicate xs.length 0));go_enter Tryz.func48,Tryz.ntmps48;go_wp2
 go_loopg [13] xs.length (fun g c wr=>∃ (j:Nat) (h:List Int),j+g=xs.length/\c=.int .i64 j/\h.length=xs.length/\(∀ i y,i<j->xs[i]?=some y->h[i]?=some (if y.op == 14 then f i y else -1))/\wr.heap[w.heap.size]?=some (xeD h)/\Below w.heap.size w wr)
 case atStart=>exact⟨0,List.replicate xs.length 0,by omega,rfl,by simp,fun i y hi=>by omega,hg0,hb0⟩
 case round=>
  obtain⟨j,h,hj,rfl,hlen,hno,hg,hbel⟩:=hrel;have HN:Hid (∀ i y,i<j->xs[i]?=some y->h[i]?=some (if y.op == 14 then f i y else -1)):=hno;clear hno hg0 hb0
  by_cases hlt:j<xs.length
  ·obtain⟨b,o,rfl,-,hv0,hv1,hv2,hv3,hv4,hsz⟩:=hrow j xs[j] (by simp[hlt])
   have hxj:Hid (xs[j]?=some xs[j]):=by show _=_;simp[hlt]
   generalize xs[j]=x at *;simp only[Nat.add_zero] at hv0;have u0:=qzA hbel hv0;have u1:=qzA hbel hv1;have u2:=qzA hbel hv2;have u3:=qzA hbel hv3;have u4:=qzA hbel hv4;clear hv0 hv1 hv2 hv3 hv4 hrow;have hj1:(j:Int)<(xs.length:Int):=by omega
   have hj0:(0:Int)<=(j:Int):=by omega
   have hbx:=xaj wr (Obj.cells #[Value.int .i64 x.op,Value.int .i64 x.a,Value.int .i64 x.b,Value.int .i64 x.c,Value.string x.name] 57);have hg1:(wr.alloc (Obj.cells #[Value.int .i64 x.op,Value.int .i64 x.a,Value.int .i64 x.b,Value.int .i64 x.c,Value.string x.name] 57)).heap[w.heap.size]?=some (xeD h):=by rw[hbx.block _ (xai hg)];exact hg
   have hgl:=xai hg;have gc:=xdP hg1 (k:=j) (by omega)
   have gf:=xd0 hg1 j;have n0:(wr.alloc (Obj.cells #[Value.int .i64 x.op,Value.int .i64 x.a,Value.int .i64 x.b,Value.int .i64 x.c,Value.string x.name] 57)).cell? ⟨wr.heap.size,0,none⟩=some (.int .i64 x.op):=by rw[xaa _ _ _ _ rfl];rfl
   have n1:(wr.alloc (Obj.cells #[Value.int .i64 x.op,Value.int .i64 x.a,Value.int .i64 x.b,Value.int .i64 x.c,Value.string x.name] 57)).cell? ⟨wr.heap.size,1,none⟩=some (.int .i64 x.a):=by rw[xaa _ _ _ _ rfl];rfl
   have n2:(wr.alloc (Obj.cells #[Value.int .i64 x.op,Value.int .i64 x.a,Value.int .i64 x.b,Value.int .i64 x.c,Value.string x.name] 57)).cell? ⟨wr.heap.size,2,none⟩=some (.int .i64 x.b):=by rw[xaa _ _ _ _ rfl];rfl
   have n3:(wr.alloc (Obj.cells #[Value.int .i64 x.op,Value.int .i64 x.a,Value.int .i64 x.b,Value.int .i64 x.c,Value.string x.name] 57)).cell? ⟨wr.heap.size,3,none⟩=some (.int .i64 x.c):=by rw[xaa _ _ _ _ rfl];rfl
   have n4:(wr.alloc (Obj.cells #[Value.int .i64 x.op,Value.int .i64 x.a,Value.int .i64 x.b,Value.int .i64 x.c,Value.string x.name] 57)).cell? ⟨wr.heap.size,4,none⟩=some (.string x.name):=by rw[xaa _ _ _ _ rfl];rfl
   have hbw:=xae hbel hbx
   go_upto_region 5 with (fail)
   generalize hbb:wr.heap.size=bi at *;generalize (wr.alloc (Obj.cells #[Value.int .i64 x.op,Value.int .i64 x.a,Value.int .i64 x.b,Value.int .i64 x.c,Value.string x.name] 57))=W1 at *;have hne:bi≠w.heap.size:=by omega
   clear hbx u0 u1 u2 u3 u4 hg hbel hbb;have hg2:=xeU hg1 j (-1);have m0:=(World.cell?_setCell_other W1 ⟨w.heap.size,j,none⟩ ⟨bi,0,none⟩ (.int .i64 (-1)) (by simp[hne])).trans n0
   have m1:=(World.cell?_setCell_other W1 ⟨w.heap.size,j,none⟩ ⟨bi,1,none⟩ (.int .i64 (-1)) (by simp[hne])).trans n1
   have m2:=(World.cell?_setCell_other W1 ⟨w.heap.size,j,none⟩ ⟨bi,2,none⟩ (.int .i64 (-1)) (by simp[hne])).trans n2
   have m3:=(World.cell?_setCell_other W1 ⟨w.heap.size,j,none⟩ ⟨bi,3,none⟩ (.int .i64 (-1)) (by simp[hne])).trans n3
   have m4:=(World.cell?_setCell_other W1 ⟨w.heap.size,j,none⟩ ⟨bi,4,none⟩ (.int .i64 (-1)) (by simp[hne])).trans n4
   have hb2:Below w.heap.size w (W1.setCell ⟨w.heap.size,j,none⟩ (.int .i64 (-1))):=hbw.setCell (qzC _) _
   go_upto_region 6 with (fail)
   generalize (W1.setCell { block:=w.heap.size,off:=j } (Value.int .i64 (-1)))=W2 at *;clear n0 n1 n2 n3 n4 hg1 gc gf hbw
   have HQ:Hid (∀ v:Int,v=(if x.op == 14 then f j x else -1)->∀ i y,i<j+1->xs[i]?=some y->((h.set j (-1)).set j v)[i]?=some (if y.op == 14 then f i y else -1)):=fun v hv i y hi hy=>by
    by_cases hij:i=j
    ·subst hij;rw[hxj.out] at hy;cases hy;rw[hv]
     simp[hlen,hlt]
    ·rw[List.getElem?_set_ne (by omega),List.getElem?_set_ne (by omega)]
     exact HN.out i y (by omega) hy
   by_cases h14:x.op=14
   ·have hd:(x.op == 14)=true:=by simpa using h14
    have HV:Hid (∀ i y,i<j+1->xs[i]?=some y->((h.set j (-1)).set j (f j x))[i]?=some (if y.op == 14 then f i y else -1)):=HQ.out _ (by rw[hd];simp)
    clear h14 HQ HN;go_wp2_with fail;refine (hF j x _ hb2).mono ?_;rintro e w3 ⟨rfl,hb3⟩;have hg3:w3.heap[w.heap.size]?=some (xeD (h.set j (-1))):=by rw[hb3.block _ (xai hg2)];exact hg2
    have gc:=xdP hg3 (k:=j) (by simp;omega)
    have gf:=xd0 hg3 j;have hg4:=xeU hg3 j (f j x);have hb4:Below w.heap.size w (w3.setCell ⟨w.heap.size,j,none⟩ (.int .i64 (f j x))):=(xae hb2 hb3).setCell (qzC _) _;clear hg2 m0 m1 m2 m3 m4 hb3;go_wp2
    go_roundg (gk-1)
    case measure=>omega
    case rel=>exact⟨j+1,_,by omega,by go_num,by simp;exact hlen,HV.out,hg4,hb4⟩
   ·have hd:(x.op == 14)=false:=by simpa using h14
    have HV:Hid (∀ i y,i<j+1->xs[i]?=some y->(h.set j (-1))[i]?=some (if y.op == 14 then f i y else -1)):=by
     have:=HQ.out (-1) (by rw[hd];simp)
     rw[List.set_set] at this
     exact this
    clear h14 HQ HN;go_wp2
    go_roundg (gk-1)
    case measure=>omega
    case rel=>exact⟨j+1,_,by omega,by go_num,by simp;exact hlen,HV.out,hg2,hb2⟩
  ·obtain rfl:j=xs.length:=by omega
   go_wp2
   go_ret
   refine⟨rfl,?_,hbel⟩;rw[hg]
   congr 3
   refine List.ext_getElem? fun i=>?_
   by_cases hi:i<xs.length
   ·have hx:xs[i]?=some xs[i]:=by simp[hi]
    rw[HN.out i _ hi hx]
    simp[hi]
   ·rw[List.getElem?_eq_none (by omega),List.getElem?_eq_none (by simp;omega)]
theorem xjq {P P2:Nat->Prop}(X:QW)(t:List QT)(c:Int)(m:QM)(j:Nat)(x:QI)(b0 b1 b2 b3:Nat)(cv hv tv:Value)(w:World)(hC:xaf P w cv X.cz)(hH:xaA P w hv X.heap)(hT:xbq P2 w tv t)
  (k0:w.cell? ⟨b0,0,none⟩=some cv) (k1:w.cell? ⟨b0,1,none⟩=some hv) (k2:w.cell? ⟨b0,2,none⟩=some (.int .i64 X.ez)) (k3:w.cell? ⟨b1,0,none⟩=some tv) (k4:w.cell? ⟨b2,0,none⟩=some (.int .i64 c)) (k5:w.cell? ⟨b3,0,none⟩=some (.string m.name)) :
  Calls Tryz.prog 49 #[.int .i64 j,IV x,.pointer (some ⟨b0,0,none⟩),.pointer (some ⟨b1,0,none⟩),.pointer (some ⟨b2,0,none⟩),.pointer (some ⟨b3,0,none⟩)] w fun e w'=>e=.returned (.int .i64 (xfT X t ⟨c,m.name,j⟩ x.name x.a))/\Below w.heap.size w w':=by
 obtain⟨ad,cap,rfl,-⟩:=id hC;obtain⟨ah,ch,rfl,-⟩:=id hH;obtain⟨at',ct,rfl,-⟩:=id hT;have k0':=fun y=>qzA (xaj w y) k0
 have k1':=fun y=>qzA (xaj w y) k1
 have k2':=fun y=>qzA (xaj w y) k2
 have k3':=fun y=>qzA (xaj w y) k3
 have k4':=fun y=>qzA (xaj w y) k4
 have k5':=fun y=>qzA (xaj w y) k5
 clear k0 k1 k2 k3 k4 k5;go_enter Tryz.func49,Tryz.ntmps49;go_wp2_with fail;refine (xlj X t ⟨c,m.name,j⟩ x.name x.a _ _ _ _ (hC.later xau (xaj _ _)) (hH.later xaz (xaj _ _)) (hT.later xeo (xaj _ _))).mono ?_;rintro e w1 ⟨rfl,hb⟩;go_wp2
 go_ret
 exact⟨rfl,xdA (Below.refl _ _) hb⟩
structure SitB (w:World)(cv hv tv:Value)(ep c:Int)(w':World):Prop where
 k0:w'.cell? ⟨w.heap.size,0,none⟩=some cv
 k1:w'.cell? ⟨w.heap.size,1,none⟩=some hv
 k2:w'.cell? ⟨w.heap.size,2,none⟩=some (.int .i64 ep)
 k3:w'.cell? ⟨w.heap.size+1,0,none⟩=some tv
 k4:w'.cell? ⟨w.heap.size+1+1,0,none⟩=some (.int .i64 c)
 bel:Below w.heap.size w w'
theorem SitB.later {w:World}{cv hv tv:Value}{ep c:Int}{w' w'':World}(h:SitB w cv hv tv ep c w')(hb:Below w'.heap.size w' w''):SitB w cv hv tv ep c w'':=
 ⟨qzA hb h.k0,qzA hb h.k1,qzA hb h.k2,qzA hb h.k3,qzA hb h.k4,xae h.bel hb⟩
theorem xl3 (w:World)(cv hv tv:Value)(ep c:Int):SitB w cv hv tv ep c (((w.alloc (.cells #[cv,hv,.int .i64 ep] 25)).alloc (.cells #[tv] 31)).alloc (.cells #[.int .i64 c] 3)):=by
 refine⟨?_,?_,?_,?_,?_,xeQ _ _ _ _⟩
 ·exact qzA (xbA _ _ _) (by rw[xaa _ _ _ _ rfl];rfl)
 ·exact qzA (xbA _ _ _) (by rw[xaa _ _ _ _ rfl];rfl)
 ·exact qzA (xbA _ _ _) (by rw[xaa _ _ _ _ rfl];rfl)
 ·exact qzA (xaj _ _) (by rw[xaa _ _ _ _ (by simp)];rfl)
 ·rw[xaa _ _ _ _ (by simp)];rfl
theorem xg3 {P P2:Nat->Prop}(X:QW)(t:List QT)(c k:Int)(cv hv tv:Value)(w:World)(hC:xaf P w cv X.cz)(hH:xaA P w hv X.heap)(hT:xbq P2 w tv t) :
  Calls Tryz.prog 23 #[WV cv hv X.ez,tv,.int .i64 c,.int .i64 k] w fun e w'=>∃ a cap,e=.returned (.slice a (xbp X t c k).length cap)/\xcL (fun b=>w.heap.size<=b) w' (.slice a (xbp X t c k).length cap) (xbp X t c k)/\Below w.heap.size w w':=by
 have hm:=hmf;obtain⟨ad,cap,rfl,hl,hcap,-,hrow⟩:=id hC;obtain⟨ah,ch,rfl,-⟩:=id hH;obtain⟨at',ct,rfl,-⟩:=id hT;have hB:=xl3 w (.slice ad X.cz.length cap) (.slice ah X.heap.length ch) (.slice at' t.length ct) X.ez c;go_enter Tryz.func23,Tryz.ntmps23
 go_upto_region 1 with (fail)
 generalize ((w.alloc (.cells #[.slice ad X.cz.length cap,.slice ah X.heap.length ch,.int .i64 X.ez] 25)).alloc (.cells #[.slice at' t.length ct] 31)).alloc (.cells #[.int .i64 c] 3)=W0 at *;have hC0:=hC.later xau hB.bel;have hH0:=hH.later xaz hB.bel;obtain⟨k0,k1,k2,k3,k4,hbel⟩:=id hB;go_wp2_with fail;refine (xm6 X c k _ _ _ hC0 hH0).mono ?_;rintro e w1 ⟨rfl,hb1⟩;replace hB:=hB.later hb1;clear hb1 k0 k1 k2 k3 k4 hC0 hH0 hbel
 cases hmo:xhn X.cz c k with
 | none=>
  have HS:Hid (xbp X t c k=[]):=by show _=_;simp[xbp,hmo]
  go_wp2
  go_ret
  refine⟨none,0,?_,?_,hB.bel⟩
  ·rw[HS.out];rfl
  ·rw[HS.out];exact xbk
 | some m=>
  have HS:Hid (xbp X t c k=m.code.mapIdx (xni X t c m)):=by show _=_;simp[xbp,hmo]
  obtain⟨q,t',x,rfl,rfl,hx,hy⟩:=xge hmo;clear hmo;have hq:=xag hx;have ht:=xag hy;obtain⟨b,o,rfl,-,-,-,-,-,mv,hv3,hms⟩:=hrow q x hx;obtain⟨am,cm,rfl,hlm,hcm,-,hrm⟩:=hms;obtain⟨b2,o2,rfl,-,y0,y1,y2,y3,-,sv,y4,hco⟩:=hrm t' m hy;obtain⟨ac,cc,rfl,hlc,hcc,hbyc,-⟩:=id hco;simp only[Nat.add_zero] at y0;have u3:=qzA hB.bel hv3;have z0:=qzA hB.bel y0;have z1:=qzA hB.bel y1;have z2:=qzA hB.bel y2;have z3:=qzA hB.bel y3;have z4:=qzA hB.bel y4;unfold maxLen at hcap hcm;have hq1:(q:Int)<(X.cz.length:Int):=by omega
  have hq0:(0:Int)<=(q:Int):=by omega
  have ht1:(t':Int)<(x.mz.length:Int):=by omega
  have ht0:(0:Int)<=(t':Int):=by omega
  obtain⟨k0,k1,k2,k3,k4,hbel⟩:=id hB;have hbx:=xaj w1 (Obj.cells #[.string m.name,.int .i64 m.args,.int .i64 m.temps,.int .i64 m.prim,.slice ac m.code.length cc] 59);have n0:(w1.alloc (Obj.cells #[.string m.name,.int .i64 m.args,.int .i64 m.temps,.int .i64 m.prim,.slice ac m.code.length cc] 59)).cell? ⟨w1.heap.size,0,none⟩=some (.string m.name):=by rw[xaa _ _ _ _ rfl];rfl
  have n4:(w1.alloc (Obj.cells #[.string m.name,.int .i64 m.args,.int .i64 m.temps,.int .i64 m.prim,.slice ac m.code.length cc] 59)).cell? ⟨w1.heap.size,4,none⟩=some (.slice ac m.code.length cc):=by rw[xaa _ _ _ _ rfl];rfl
  go_upto_region 4 with (fail)
  replace hB:=hB.later hbx;generalize (w1.alloc (Obj.cells #[.string m.name,.int .i64 m.args,.int .i64 m.temps,.int .i64 m.prim,.slice ac m.code.length cc] 59))=W2 at *;generalize w1.heap.size=bm at *;have hcl:=hco.later xaV hB.bel;have hC2:=hC.later xau hB.bel;have hH2:=hH.later xaz hB.bel;have hT2:=hT.later xeo hB.bel;clear k0 k1 k2 k3 k4 hbx u3 z0 z1 z2 z3 z4 hrow hrm hx hy hv3 y0 y1 y2 y3 y4 hbel;go_wp2_with fail;refine (xms _ _ _ _ (fun j x=>xfT X t ⟨(q:Int),m.name,j⟩ x.name x.a) m.code _ _ hcl fun j x w' hb=>xjq X t (q:Int) m j x _ _ _ _ _ _ _ w' (hC2.later xau hb) (hH2.later xaz hb) (hT2.later xeo hb) (qzA hb hB.k0) (qzA hb hB.k1) (qzA hb hB.k2) (qzA hb hB.k3) (qzA hb hB.k4) (qzA hb n0)).mono ?_
  rintro e w3 ⟨rfl,hg,hb3⟩;have HL:Hid ((m.code.mapIdx fun j x=>if x.op == 14 then xfT X t ⟨(q:Int),m.name,j⟩ x.name x.a else -1)=xbp X t (q:Int) (t':Int)):=by show _=_;rw[HS.out];rfl
  rw[HL.out] at hg;have hlen:m.code.length=(xbp X t (q:Int) (t':Int)).length:=by rw[HS.out];simp
  go_wp2
  go_ret
  refine⟨some ⟨W2.heap.size,0,none⟩,m.code.length,by rw[hlen];rfl,?_,xae hB.bel hb3⟩
  have:=hB.bel.size;have:=(xgG (P:=fun b=>w.heap.size<=b) (w:=w3) (xbp X t (q:Int) (t':Int))).row (bytes:=8) (cap:=m.code.length) xhV (by omega) hg (by rw[List.take_of_length_le (by simp[xbS])];simp[xbS]) (by omega) (by omega) (by omega)
  exact this
def jmp (y:QI):Prop:=y.op=15\/y.op=16
end Go.Proofs.YtaodadfahifbpaaGreat
