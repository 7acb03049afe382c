/- A part. -/
import Derived.Test.YtdfbgpiikeheiaaQ8
namespace Go.Proofs.Ytdfbgpiikeheiaa
open Go.ChangeShapes Go.WideShapes Go.ChangeAt Go.RowKit
set_option linter.unusedSimpArgs false
set_option linter.unusedVariables false
set_option maxHeartbeats 8000000
set_option maxRecDepth 8000
theorem xka {xs:List QC}{c n:Int}{mt:QM}(h:xaI xs c n=some mt):∃ (kc kn:Nat) (x:QC),c=(kc:Int)/\n=(kn:Int)/\xs[kc]?=some x/\x.mz[kn]?=some mt:=by
 unfold xaI at h
 cases hc:xbx xs c with
 | none=>rw[hc] at h;cases h
 | some x=>
  rw[hc] at h;obtain⟨k,rfl,hk⟩:=xa7 hc;simp only[Option.bind_some] at h
  split at h
  ·exact⟨k,n.toNat,x,rfl,by omega,hk,h⟩
  ·cases h
def MtR (X:QW)(sites:List Int)(Z:World)(bm:Nat)(m:QM)(kv:Value)(c:Int)(gk:Nat)(pv iv:Value)(wr:World):Prop:=
 ∃ (j:Nat) (a:Option Addr) (cap:Nat),j+gk=m.code.length/\iv=.int .i64 (j:Int)/\pv=.int .i64 ((xah X.cz sites m j).pieces:Int)/\MtL Z bm m kv c X.ez (xah X.cz sites m j).temps (xah X.cz sites m j).code ((xah X.cz sites m j).begins++List.replicate (m.code.length-j) 0) a cap wr
theorem xqx {X:QW}{sites:List Int}{Z:World}{bm:Nat}{m:QM}{kv:Value}{c:Int}{j:Nat}{x:QI}(hx:m.code[j]?=some x)(hw:xdZ X.cz sites m.code.length (xah X.cz sites m j).code.length (xah X.cz sites m j).temps j x=none){a':Option Addr}{cap':Nat}{W:World}
  (h:MtL Z bm m kv c X.ez (xah X.cz sites m j).temps ((xah X.cz sites m j).code++[xbh x (j:Int)]) (((xah X.cz sites m j).begins++List.replicate (m.code.length-j) 0).set j ((xah X.cz sites m j).code.length:Int)) a' cap' W):MtR X sites Z bm m kv c (m.code.length-(j+1)) (.int .i64 ((xah X.cz sites m j).pieces:Int)) (.int .i64 ((j:Int)+1)) W:=by
 have hj:=xae hx;refine⟨j+1,a',cap',by omega,by go_num,?_,?_⟩
 ·rw[xbg hx];unfold xdA;rw[hw]
 ·rw[xhh (xbF (by omega)) hj] at h
  rw[xbg hx];unfold xdA;rw[hw]
  exact h
theorem xoA {X:QW}{sites:List Int}{Z:World}{bm:Nat}{m:QM}{kv:Value}{c:Int}{j:Nat}{x:QI}{leaf:QM}(hx:m.code[j]?=some x)(hw:xdZ X.cz sites m.code.length (xah X.cz sites m j).code.length (xah X.cz sites m j).temps j x=some leaf){a':Option Addr}{cap':Nat}{W:World}
  (h:MtL Z bm m kv c X.ez ((xah X.cz sites m j).temps+1+leaf.args+leaf.temps) ((xah X.cz sites m j).code++xbu leaf (ins 18 (sites.getD j (-1)) leaf.args j) (xah X.cz sites m j).temps (xah X.cz sites m j).code.length) (((xah X.cz sites m j).begins++List.replicate (m.code.length-j) 0).set j ((xah X.cz sites m j).code.length:Int)) a' cap' W):MtR X sites Z bm m kv c (m.code.length-(j+1)) (.int .i64 ((xah X.cz sites m j).pieces+1:Int)) (.int .i64 ((j:Int)+1)) W:=by
 have hj:=xae hx;refine⟨j+1,a',cap',by omega,by go_num,?_,?_⟩
 ·rw[xbg hx];unfold xdA;rw[hw];rfl
 ·rw[xhh (xbF (by omega)) hj] at h
  rw[xbg hx];unfold xdA;rw[hw]
  exact h
structure RbX (w:World)(cv hv:Value)(ep:Int)(w':World):Prop where
 w0:w'.cell? ⟨w.heap.size,0,none⟩=some cv
 w1:w'.cell? ⟨w.heap.size,1,none⟩=some hv
 w2:w'.cell? ⟨w.heap.size,2,none⟩=some (.int .i64 ep)
 z0:w'.cell? ⟨w.heap.size+1,0,none⟩=some (.int .i64 0)
 z1:w'.cell? ⟨w.heap.size+1,1,none⟩=some (.string ⟨#[]⟩)
 z2:w'.cell? ⟨w.heap.size+1,2,none⟩=some (.int .i64 0)
 z3:w'.cell? ⟨w.heap.size+1,3,none⟩=some (.int .i64 0)
 z4:w'.cell? ⟨w.heap.size+1,4,none⟩=some (.slice none 0 0)
 zf:∀ o,w'.frozen? ⟨w.heap.size+1,o,none⟩=false
 sz:w.heap.size+2<=w'.heap.size
theorem RbX.later {w:World}{cv hv:Value}{ep:Int}{w' w'':World}(h:RbX w cv hv ep w')(hb:Below w'.heap.size w' w''):RbX w cv hv ep w'':=
 ⟨qzA hb h.w0,qzA hb h.w1,qzA hb h.w2,qzA hb h.z0,qzA hb h.z1,qzA hb h.z2,qzA hb h.z3,qzA hb h.z4,fun o=>(hb.frozen (p:=⟨w.heap.size+1,o,none⟩) (by have:=h.sz;simp only;omega)).trans (h.zf o),qzD h.sz hb.size⟩
theorem xnG (w:World)(cv hv:Value)(ep:Int):RbX w cv hv ep ((w.alloc (.cells #[cv,hv,.int .i64 ep] 25)).alloc (.cells #[.int .i64 0,.string ⟨#[]⟩,.int .i64 0,.int .i64 0,.slice none 0 0] 62)):=by
 have e1:(w.alloc (.cells #[cv,hv,.int .i64 ep] 25)).heap.size=w.heap.size+1:=by simp
 exact⟨qzA (xak _ _) (xaa w #[cv,hv,.int .i64 ep] 25 _ rfl 0),qzA (xak _ _) (xaa w #[cv,hv,.int .i64 ep] 25 _ rfl 1),qzA (xak _ _) (xaa w #[cv,hv,.int .i64 ep] 25 _ rfl 2),xaa _ _ _ _ e1 0,xaa _ _ _ _ e1 1,xaa _ _ _ _ e1 2,xaa _ _ _ _ e1 3,xaa _ _ _ _ e1 4,xbT (cur:=#[.int .i64 0,.string ⟨#[]⟩,.int .i64 0,.int .i64 0,.slice none 0 0]) (t:=62) (by rw[← e1];exact qzJ _ _),by simp⟩
theorem xpY (w1:World)(m:QM)(kv:Value)(c ep tm:Int)(n:Nat)(_:Unit):MtL (((w1.alloc (.cells #[.string m.name,.int .i64 m.args,.int .i64 m.temps,.int .i64 m.prim,kv] 55)).alloc (.cells #[.int .i64 c,.string m.name,.int .i64 ep,.int .i64 tm,.slice none 0 0] 62)).alloc (xfu (List.replicate n 0))) w1.heap.size m kv c ep tm [] (List.replicate n 0) none 0 (((w1.alloc (.cells #[.string m.name,.int .i64 m.args,.int .i64 m.temps,.int .i64 m.prim,kv] 55)).alloc (.cells #[.int .i64 c,.string m.name,.int .i64 ep,.int .i64 tm,.slice none 0 0] 62)).alloc (xfu (List.replicate n 0))):=by
 have e1:(w1.alloc (.cells #[.string m.name,.int .i64 m.args,.int .i64 m.temps,.int .i64 m.prim,kv] 55)).heap.size=w1.heap.size+1:=by simp
 have e2:((w1.alloc (.cells #[.string m.name,.int .i64 m.args,.int .i64 m.temps,.int .i64 m.prim,kv] 55)).alloc (.cells #[.int .i64 c,.string m.name,.int .i64 ep,.int .i64 tm,.slice none 0 0] 62)).heap.size=w1.heap.size+2:=by simp
 refine⟨rfl,rfl,rfl,by simp,fun _ _=>rfl,xad (qzJ w1 _) (xbP _ _ _),xad (by rw[← e1];exact qzJ _ _) (xak _ _),by rw[← e2];exact qzJ _ _,⟨rfl,Or.inl ⟨rfl,rfl⟩⟩⟩
theorem xo9 {w U:World}{r:Fst × Bool}{a:Option Addr}{cap:Nat}(hb:Below w.heap.size w U)(hco:xaR (fun b=>w.heap.size+2<=b/\b<U.heap.size) U (.slice a r.1.code.length cap) r.1.code):xiz w r (.returned (.tuple #[FsV r.1 (.slice a r.1.code.length cap),.bool r.2])) (xk4 U (w.heap.size+1) (.int .i64 r.1.cls) (.string r.1.name) (.int .i64 r.1.ez) (.int .i64 r.1.temps) (.slice a r.1.code.length cap)):=by
 refine⟨a,cap,rfl,hco.keep xa2 (Keeps.of_block fun b hb _=>blk5 (by omega)) fun b h=>⟨by omega,?_⟩,bel5 hb (by omega)⟩
 simp only[xa6];exact h.2
theorem xmd {w U:World}(hb:Below w.heap.size w U):xiz w (xdw,false) (.returned (.tuple #[FsV xdw (.slice none 0 0),.bool false])) (xk4 U (w.heap.size+1) (.int .i64 0) (.string ⟨#[]⟩) (.int .i64 0) (.int .i64 0) (.slice none 0 0)):=xo9 (r:=(xdw,false)) (a:=none) (cap:=0) hb xbn
theorem xfw {xs:List QC}{sites:List Int}{m:QM}:∀ k:Nat,(xah xs sites m k).pieces<=(xah xs sites m k).code.length
 | 0=>qzC _
 | k+1=>by
  have ih:=xfw (xs:=xs) (sites:=sites) (m:=m) k;unfold xah
  split
  ·exact ih
  ·generalize xah xs sites m k=s at *;unfold xdA
   split
   ·simp;omega
   ·simp[xbB];omega
theorem xhV {xs:List QC}{sites:List Int}{m:QM}:∀ k:Nat,∀ b∈(xah xs sites m k).begins,0<=b/\b<((xah xs sites m k).code.length:Int)
 | 0,b,hb=>by simp[xah] at hb
 | k+1,b,hb=>by
  have ih:=xhV (xs:=xs) (sites:=sites) (m:=m) k;unfold xah at hb ⊢
  split at hb
  ·exact ih b hb
  ·rename_i x h;generalize xah xs sites m k=s at *;rw[xel] at hb
   have hl:s.code.length<(xdA xs sites m.code.length s k x).code.length:=by
    unfold xdA
    split
    ·simp
    ·simp[xbB];omega
   rcases List.mem_append.1 hb with h' | h'
   ·have:=ih b h';omega
   ·simp at h';omega
theorem xri {P:Nat->Prop}{w:World}{cv:Value}{xs:List QC}(hC:xai P w cv xs){c n:Int}{m:QM}(hm:xaI xs c n=some m):NmOk m.code:=by
 obtain⟨q,t,x,rfl,rfl,hx,ht⟩:=xka hm;obtain⟨ac,cc,rfl,-,-,-,hrow⟩:=hC;obtain⟨b,o,-,-,-,-,-,-,mv,-,hms⟩:=hrow q x hx;obtain⟨am,cm,rfl,-,-,-,hrm⟩:=hms;obtain⟨b2,o2,-,-,-,-,-,-,-,kv,-,hco⟩:=hrm t m ht;obtain⟨ak,ck,rfl,-,-,-,hrk⟩:=hco;intro y hy;obtain⟨i,hi,rfl⟩:=List.mem_iff_getElem.1 hy;obtain⟨b3,o3,-,-,-,-,-,-,-,hsz⟩:=hrk i m.code[i] (by simp)
 exact hsz
theorem nm0:(⟨#[]⟩:ByteArray).size<=140737488351232:=by decide
theorem xmA (l:List QI)(h:∀ x∈l,x.name=⟨#[]⟩):NmOk l:=fun x hx=>by rw[h x hx];exact nm0
theorem xoN {leaf:QM}(h:NmOk leaf.code)(g:QI)(hg:g.name.size<=140737488351232)(self n:Int):NmOk (xbu leaf g self n):=by
 have hs:∀ (a:Int) (k:Nat),NmOk (xdd a k):=by
  intro a k
  induction k with
  | zero=>exact xmA _ fun x hx=>by simp[xdd] at hx
  | succ k ih=>
   intro x hx;simp only[xdd,List.mem_cons] at hx
   rcases hx with rfl | hx
   ·exact nm0
   ·exact ih x hx
 have hn:∀ (a:Int) (k:Nat),NmOk (xco a k):=by
  intro a k
  induction k with
  | zero=>exact xmA _ fun x hx=>by simp[xco] at hx
  | succ k ih=>
   rw[xdV];refine ih.append (xmA _ fun x hx=>?_)
   simp only[List.mem_cons,List.not_mem_nil,or_false] at hx
   rcases hx with rfl | rfl<;>rfl
 unfold xbu xfy;refine ((((?_:NmOk _).append (hs _ _)).append ?_).append (hn _ _)).append ?_
 ·intro x hx;simp only[List.mem_cons,List.not_mem_nil,or_false] at hx
  rcases hx with rfl | rfl
  ·exact hg
  ·exact nm0
 ·intro x hx;simp only[List.mem_cons,List.not_mem_nil,or_false] at hx;subst hx
  exact nm0
 ·intro x hx;obtain⟨y,hy,rfl⟩:=List.mem_map.1 hx;unfold xay
  repeat' split
  all_goals first | exact nm0 | exact h y hy
theorem xkC {P:Nat->Prop}{w:World}{cv:Value}{xs:List QC}(hC:xai P w cv xs){sites:List Int}{m:QM}(hm:NmOk m.code):∀ k:Nat,NmOk (xah xs sites m k).code
 | 0=>fun x hx=>by simp[xah] at hx
 | k+1=>by
  have ih:=xkC hC (sites:=sites) hm k;unfold xah
  split
  ·exact ih
  ·rename_i x hx;generalize xah xs sites m k=s at *;unfold xdA
   split
   ·refine ih.append fun y hy=>?_
    simp at hy
    subst hy;have:=hm x (List.mem_of_getElem? hx);unfold xbh
    split<;>exact this
   ·rename_i leaf hw;refine ih.append (xoN ?_ _ nm0 _ _);unfold xdZ at hw
    split at hw
    ·cases hw
    ·rename_i lf hst
     split at hw
     ·cases hw
      unfold xa3 at hst
      split at hst
      ·split at hst
       ·cases hst
       ·rename_i m' hm'
        split at hst
        ·cases hst;exact xri hC (xeY hm')
        ·cases hst
      ·cases hst
     ·cases hw
theorem xpe {begins:List Int}{plain code:List QI}(h:NmOk code):∀ k,NmOk (xdC begins plain code k)
 | 0=>h
 | k+1=>by
  have ih:=xpe (begins:=begins) (plain:=plain) h k;unfold xdC
  split
  ·split
   ·intro x hx;obtain⟨i,hi⟩:=List.mem_iff_getElem?.1 hx;rw[List.getElem?_modify] at hi
    cases hc:(xdC begins plain code k)[i]? with
    | none=>rw[hc] at hi;simp at hi
    | some y=>
     rw[hc] at hi;have:=ih y (List.mem_of_getElem? hc)
     simp at hi
     split at hi<;>(rw[← hi];exact this)
   ·exact ih
  ·exact ih
theorem xnP {w:World}{B cap:Nat}{ad:Addr}{code:List QI}(h:OwnI w B (some ad) cap code):∀ j u,(xa9 code)[j]?=some u->w.cell? (ad.add j)=some u:=by
 obtain⟨h1,h2 | ⟨g,o,c,cur,e,h3,h4,h5,h6,h7,h8⟩⟩:=h
 ·cases h2.1
 ·cases e
  intro j u hu;rw[← h8,List.getElem?_take] at hu
  split at hu
  ·rw[List.getElem?_drop] at hu;rw[Addr.add_lit,qzB h4]
   simpa using hu
  ·cases hu
theorem xjB {P Q:Nat->Prop}(X:QW)(hX:xaH X=0)(c k:Int)(m:QM)(hm:xaI X.cz c k=some m)(sites:List Int)(cv hv sv:Value)(w:World)(hC:xai P w cv X.cz)(hH:xaD P w hv X.heap)(hS:xc5 Q w sv sites) :
  Calls Try.prog 11 #[WV cv hv X.ez,.int .i64 c,.int .i64 k,sv] w fun e w'=>xiz w (xce X c m sites) e w':=by
 obtain⟨ac,cc,rfl,-,hcc,-,hrowC⟩:=id (xd6 hC);obtain⟨ah,ch,rfl,-⟩:=id hH;obtain⟨asv,cs,rfl,hls,hcs,-,hrowS⟩:=id hS;unfold maxLen at hcs hcc;have hSm:=xda hX hm;obtain⟨qc,tc,xc,rfl,rfl,hxc,hmt⟩:=xka hm;obtain⟨b1,o1,hb1e,-,-,-,-,-,mv,u3,hms⟩:=hrowC qc xc hxc;obtain⟨am,cm,rfl,hlm,hcm,-,hrm⟩:=hms;obtain⟨b2,o2,rfl,-,v0,v1,v2,v3,-,kv,v4,hco⟩:=hrm tc m hmt;obtain⟨ak,ck,rfl,hlk,hck,-,hrowK⟩:=id hco;subst hb1e;simp only[Nat.add_zero] at v0;unfold maxLen at hcm hck;have hq:=xae hxc;have ht:=xae hmt;have hq1:(qc:Int)<(X.cz.length:Int):=by omega
 have hq0:(0:Int)<=(qc:Int):=by omega
 have ht1:(tc:Int)<(xc.mz.length:Int):=by omega
 have ht0:(0:Int)<=(tc:Int):=by omega
 have hmk:=xfY m.code.length (by have:=hSm.len;omega)
 have hbW:=xbP w (.cells #[.slice (some ⟨b1,o1,none⟩) X.cz.length cc,.slice ah X.heap.length ch,.int .i64 X.ez] 25) (.cells #[.int .i64 0,.string ⟨#[]⟩,.int .i64 0,.int .i64 0,.slice none 0 0] 62);go_enter Try.func11,Try.ntmps11;go_wp2_with fail;refine (xkO X (qc:Int) (tc:Int) _ _ _ (hC.later xaA hbW) (hH.later xaE hbW)).mono ?_;rintro e w1 ⟨rfl,hb1⟩;rw[show xgw X.cz (qc:Int) (tc:Int)=some m from hm]
 dsimp only;have hB1:=xaf hbW hb1;have zz:=xnG w (.slice (some ⟨b1,o1,none⟩) X.cz.length cc) (.slice ah X.heap.length ch) X.ez;replace zz:=zz.later hb1;have zw:=zz;replace u3:=qzA hB1 u3;replace v0:=qzA hB1 v0;replace v1:=qzA hB1 v1;replace v2:=qzA hB1 v2;replace v3:=qzA hB1 v3;replace v4:=qzA hB1 v4;obtain⟨k0,k1,k2,-,-,-,-,-,-,hzz⟩:=id zz;have kk2:=qzA (xak w1 (.cells #[.string m.name,.int .i64 m.args,.int .i64 m.temps,.int .i64 m.prim,.slice ak m.code.length ck] 55)) k2;have hbZ:Below w1.heap.size w1 (((w1.alloc (.cells #[.string m.name,.int .i64 m.args,.int .i64 m.temps,.int .i64 m.prim,.slice ak m.code.length ck] 55)).alloc (.cells #[.int .i64 (qc:Int),.string m.name,.int .i64 X.ez,.int .i64 m.temps,.slice none 0 0] 62)).alloc (xfu (List.replicate m.code.length 0))):=xfL _ _ _ _
 have hL0:MtL (((w1.alloc (.cells #[.string m.name,.int .i64 m.args,.int .i64 m.temps,.int .i64 m.prim,.slice ak m.code.length ck] 55)).alloc (.cells #[.int .i64 (qc:Int),.string m.name,.int .i64 X.ez,.int .i64 m.temps,.slice none 0 0] 62)).alloc (xfu (List.replicate m.code.length 0))) w1.heap.size m (.slice ak m.code.length ck) (qc:Int) X.ez m.temps [] (List.replicate m.code.length 0) none 0 (((w1.alloc (.cells #[.string m.name,.int .i64 m.args,.int .i64 m.temps,.int .i64 m.prim,.slice ak m.code.length ck] 55)).alloc (.cells #[.int .i64 (qc:Int),.string m.name,.int .i64 X.ez,.int .i64 m.temps,.slice none 0 0] 62)).alloc (xfu (List.replicate m.code.length 0))):=xpY w1 m (.slice ak m.code.length ck) (qc:Int) X.ez m.temps m.code.length ()
 go_upto_region 6 with (fail)
 clear hmk k0 k1 k2 kk2 u3 v0 v1 v2 v3 v4 hrowC hrm;simp only[Nat.add_assoc,Nat.reduceAdd];generalize hZ:(((w1.alloc (.cells #[.string m.name,.int .i64 m.args,.int .i64 m.temps,.int .i64 m.prim,.slice ak m.code.length ck] 55)).alloc (.cells #[.int .i64 (qc:Int),.string m.name,.int .i64 X.ez,.int .i64 m.temps,.slice none 0 0] 62)).alloc (xfu (List.replicate m.code.length 0)))=Z at *;have hzZ:=zz.later hbZ;have hBZ:=xaf hB1 hbZ;have hwb:w.heap.size+2<=w1.heap.size:=zz.sz;clear hZ hbZ hbW hb1 hB1 zz zw;generalize w1.heap.size=bm at *;have hn60:=hSm.len;have m4:=hL0.m4;go_wp2;clear m4
 go_loopg [13,49] m.code.length (fun gk pv iv wr=>MtR X sites Z bm m (.slice ak m.code.length ck) (qc:Int) gk pv iv wr)
 case atStart=>exact⟨0,none,0,by omega,rfl,rfl,by simpa [xah] using hL0⟩
 case round=>
  clear hL0;obtain⟨j,a,cap,hj,rfl,rfl,hL⟩:=hrel
  by_cases hlt:j<m.code.length
  ·have hxj:m.code[j]?=some m.code[j]:=by simp[hlt]
   obtain⟨bk,ok,hke,hbk,u0,u1,u2,u3,u4,-⟩:=hrowK j _ hxj;subst hke;generalize m.code[j]=x at *;have HXJ:=xcr hxj;obtain⟨i1,i2,i3,i4⟩:=xci hX hSm (sites:=sites) (k:=j) (by omega)
   have HBG:=xcr (xbF (xs:=X.cz) (sites:=sites) (m:=m) (k:=j) (by omega))
   have HST:=xcr (fun (hw:xdZ X.cz sites m.code.length (xah X.cz sites m j).code.length (xah X.cz sites m j).temps j x=none) {a':Option Addr} {cap':Nat} {W:World} h=>xqx (Z:=Z) (bm:=bm) (kv:=.slice (some ⟨bk,ok,none⟩) m.code.length ck) (c:=(qc:Int)) (a':=a') (cap':=cap') (W:=W) hxj hw h)
   have HPC:=xcr (fun (leaf:QM) (hw:xdZ X.cz sites m.code.length (xah X.cz sites m j).code.length (xah X.cz sites m j).temps j x=some leaf) {a':Option Addr} {cap':Nat} {W:World} h=>xoA (Z:=Z) (bm:=bm) (kv:=.slice (some ⟨bk,ok,none⟩) m.code.length ck) (c:=(qc:Int)) (a':=a') (cap':=cap') (W:=W) hxj hw h)
   have HWH:Hid (∀ st,xa3 X.cz sites j x=st->xdZ X.cz sites m.code.length (xah X.cz sites m j).code.length (xah X.cz sites m j).temps j x=match st with | none=>none | some leaf=>if xgy (xah X.cz sites m j).code.length (xah X.cz sites m j).temps leaf ((m.code.length:Int)-j)=true then some leaf else none):=fun st h=>by subst h;rfl
   generalize xah X.cz sites m j=s at *;clear hxj hrowK;simp only[Nat.add_zero] at u0;replace u0:=hL.old (by omega) (qzA hBZ u0)
   replace u1:=hL.old (by omega) (qzA hBZ u1)
   replace u2:=hL.old (by omega) (qzA hBZ u2)
   replace u3:=hL.old (by omega) (qzA hBZ u3)
   replace u4:=hL.old (by omega) (qzA hBZ u4)
   have hszr:=hL.sz;have hj1:(j:Int)<(m.code.length:Int):=by omega
   have hj0:(0:Int)<=(j:Int):=by omega
   have hbx:=xak wr (.cells #[.int .i64 x.op,.int .i64 x.a,.int .i64 x.b,.int .i64 x.c,.string x.name] 59);have hLa:=hL.later hbx;have f4:=hLa.f4;have hg0:(s.begins++List.replicate (m.code.length-j) 0)[j]?=some 0:=by rw[List.getElem?_append_right (by have:=HBG.out;omega),HBG.out,Nat.sub_self,List.getElem?_replicate,if_pos (by omega)]
   have gc:=hLa.g hg0;have gf:=hLa.gf;have hL1:=hLa.setG j (s.code.length:Int);have xbox:(wr.alloc (.cells #[.int .i64 x.op,.int .i64 x.a,.int .i64 x.b,.int .i64 x.c,.string x.name] 59)).heap[wr.heap.size]?=some (.cells #[.int .i64 x.op,.int .i64 x.a,.int .i64 x.b,.int .i64 x.c,.string x.name] 59 (0,0)):=qzJ _ _;have xbox1:((wr.alloc (.cells #[.int .i64 x.op,.int .i64 x.a,.int .i64 x.b,.int .i64 x.c,.string x.name] 59)).setCell ⟨bm+2,j,none⟩ (.int .i64 (s.code.length:Int))).heap[wr.heap.size]?=some (.cells #[.int .i64 x.op,.int .i64 x.a,.int .i64 x.b,.int .i64 x.c,.string x.name] 59 (0,0)):=by rw[xac (by omega)];exact xbox
   have HBX:Hid (some wr.heap.size≠(Value.slice a s.code.length cap).ownBlock):=fun e=>by have:=(hL.own.lt _ e.symm).2;omega
   have HCAP:=xcr hL.capOk;clear hL hLa hbx xbox
   go_upto_region 11 with (fail)
   generalize ((wr.alloc (.cells #[.int .i64 x.op,.int .i64 x.a,.int .i64 x.b,.int .i64 x.c,.string x.name] 59)).setCell ⟨bm+2,j,none⟩ (.int .i64 (s.code.length:Int)))=V0 at *;generalize wr.heap.size=bx at *;clear f4 gc gf u0 u1 u2 u3 u4;have k0:=hL1.old (by omega) hzZ.w0
   have k1:=hL1.old (by omega) hzZ.w1
   have k2:=hL1.old (by omega) hzZ.w2
   have y0:V0.cell? ⟨bx,0,none⟩=some (.int .i64 x.op):=by rw[qzB xbox1];rfl
   have y1:V0.cell? ⟨bx,1,none⟩=some (.int .i64 x.a):=by rw[qzB xbox1];rfl
   have y2:V0.cell? ⟨bx,2,none⟩=some (.int .i64 x.b):=by rw[qzB xbox1];rfl
   have y3:V0.cell? ⟨bx,3,none⟩=some (.int .i64 x.c):=by rw[qzB xbox1];rfl
   have y4:V0.cell? ⟨bx,4,none⟩=some (.string x.name):=by rw[qzB xbox1];rfl
   have hBV0:=hL1.below hBZ (by omega)
   go_wp2_with fail;refine (xlk X sites j x _ _ _ V0 (hC.later xaA hBV0) (hH.later xaE hBV0) (hS.later xil hBV0)).mono ?_;rintro e w3 ⟨leaf,al,cl,rfl,hlf,hlc,hb3⟩;dsimp only;have hbL:=xak w3 (.cells #[.string leaf.name,.int .i64 leaf.args,.int .i64 leaf.temps,.int .i64 leaf.prim,.slice al leaf.code.length cl] 55);have hb0V:=xaf hb3 hbL;have hL:=hL1.later hb0V;have hlc':=hlc.later xa2 hbL;have lbox:(w3.alloc (.cells #[.string leaf.name,.int .i64 leaf.args,.int .i64 leaf.temps,.int .i64 leaf.prim,.slice al leaf.code.length cl] 55)).heap[w3.heap.size]?=some (.cells #[.string leaf.name,.int .i64 leaf.args,.int .i64 leaf.temps,.int .i64 leaf.prim,.slice al leaf.code.length cl] 55 (0,0)):=qzJ _ _
   have xboxV:=xad xbox1 hb0V;have HBLw:Hid (V0.heap.size<=w3.heap.size):=hb3.size;have hblm:bm+3<=w3.heap.size:=by have:=hL1.sz;have:=hb3.size;omega
   have HV0:=xcr hL1.own;clear k0 k1 k2 y0 y1 y2 y3 y4 xbox1 hlc hL1 hBV0
   go_upto_region 12 with (fail)
   generalize (w3.alloc (.cells #[.string leaf.name,.int .i64 leaf.args,.int .i64 leaf.temps,.int .i64 leaf.prim,.slice al leaf.code.length cl] 55))=V at *;generalize hblw:w3.heap.size=bl at *;have HBL:Hid (some bl≠(Value.slice a s.code.length cap).ownBlock):=fun e=>by have:=(HV0.out.lt _ e.symm).2;have:=HBLw.out;omega
   have xb0:V.cell? ⟨bx,0,none⟩=some (.int .i64 x.op):=by rw[qzB xboxV];rfl
   have xb1:V.cell? ⟨bx,1,none⟩=some (.int .i64 x.a):=by rw[qzB xboxV];rfl
   have xb2:V.cell? ⟨bx,2,none⟩=some (.int .i64 x.b):=by rw[qzB xboxV];rfl
   have xb3:V.cell? ⟨bx,3,none⟩=some (.int .i64 x.c):=by rw[qzB xboxV];rfl
   have xb4:V.cell? ⟨bx,4,none⟩=some (.string x.name):=by rw[qzB xboxV];rfl
   have hszV:=hL.sz;obtain⟨hcp1,hcp2⟩:=HCAP.out
   cases hst:xa3 X.cz sites j x with
   | none=>
     have HSTAY:Hid (∀ y,xbh x (j:Int)=y->∀ a' cap' W,MtL Z bm m (.slice (some ⟨bk,ok,none⟩) m.code.length ck) (qc:Int) X.ez s.temps (s.code++[y]) ((s.begins++List.replicate (m.code.length-j) 0).set j (s.code.length:Int)) a' cap' W->MtR X sites Z bm m (.slice (some ⟨bk,ok,none⟩) m.code.length ck) (qc:Int) (m.code.length-(j+1)) (.int .i64 (s.pieces:Int)) (.int .i64 ((j:Int)+1)) W):=fun y hy a' cap' W h=>by subst hy;exact HST.out (HWH.out _ hst) h
     simp only[Option.isSome];clear hst hlf
     go_upto_region 13 with (fail)
     have hSl:∀ w',Below V.heap.size V w'->w'.cell? ⟨bm+1,4,none⟩=some (.slice a s.code.length cap)/\w'.cell? ⟨bx,0,none⟩=some (.int .i64 x.op)/\w'.cell? ⟨bx,1,none⟩=some (.int .i64 x.a)/\w'.cell? ⟨bx,2,none⟩=some (.int .i64 x.b)/\w'.cell? ⟨bx,3,none⟩=some (.int .i64 x.c)/\w'.cell? ⟨bx,4,none⟩=some (.string x.name):=fun w' hb=>⟨(hL.later hb).f4,qzA hb xb0,qzA hb xb1,qzA hb xb2,qzA hb xb3,qzA hb xb4⟩
     have hS0:=hSl _ (qzL _ V).drew;refine xav (S:=fun w'=>w'.cell? ⟨bm+1,4,none⟩=some (.slice a s.code.length cap)/\w'.cell? ⟨bx,0,none⟩=some (.int .i64 x.op)/\w'.cell? ⟨bx,1,none⟩=some (.int .i64 x.a)/\w'.cell? ⟨bx,2,none⟩=some (.int .i64 x.b)/\w'.cell? ⟨bx,3,none⟩=some (.int .i64 x.c)/\w'.cell? ⟨bx,4,none⟩=some (.string x.name)) [8] (by kernel_rfl) ?_
     refine tj 0 (⟨some 81,.fieldAddr 62 (.tmp 11) 4,0,_,_,none⟩) (.pointer (some ⟨bm+1,4,none⟩)) (hS0) ?_ ?_
     ·rintro w⟨q0,q1,q2,q3,q4,q5⟩;go_simp
     try simp only[Act.put,qzF,qzG,qzH]
     refine tj 1 (⟨some 82,.load 53 (.tmp 81),53,_,_,none⟩) (.slice a s.code.length cap) (hS0) ?_ ?_
     ·rintro w⟨q0,q1,q2,q3,q4,q5⟩;go_simp
     try simp only[Act.put,qzF,qzG,qzH]
     refine tj 2 (⟨some 83,.load 59 (.tmp 15),59,_,_,none⟩) (IV x) (hS0) ?_ ?_
     ·rintro w⟨q0,q1,q2,q3,q4,q5⟩;go_simp
     try simp only[Act.put,qzF,qzG,qzH]
     refine tj 3 (⟨some 84,.move (.tmp 14),3,_,_,none⟩) (.int .i64 (j:Int)) (hS0) ?_ ?_
     ·rintro w⟨q0,q1,q2,q3,q4,q5⟩;go_simp
     try simp only[Act.put,qzF,qzG,qzH]
     refine xab (rs:=[4]) (by kernel_rfl) (by simp) ?_
     intro i hi;simp only[List.mem_cons,List.not_mem_nil,or_false] at hi;subst hi;refine xaN (o:=⟨some 85,.call ⟨.value (.func 34),#[.tmp 83,.tmp 84],#[59,3]⟩,59,_,_,none⟩) rfl (fun K' hK=>?_)
     refine xaZ rfl 34 (.func 34) #[.tmp 83,.tmp 84] _ rfl #[] rfl #[IV x,.int .i64 (j:Int)] (by simp[Act.eval,Act.put]) (cf26 _ _) ?_
     refine (show Calls Try.prog 34 #[IV x,.int .i64 (j:Int)] V.drew _ from (xfT x (j:Int) V.drew).mono ?_)
     rintro e w5 ⟨rfl,hb5⟩;refine⟨_,rfl,?_⟩;have hbV5:Below V.heap.size V w5:=xaf (qzL _ V).drew hb5;obtain⟨y,hye⟩:∃ y,xbh x (j:Int)=y:=⟨_,rfl⟩;simp only[hye];refine hK _ _ (fun _=>?_) ?_
     ·exact hSl _ hbV5
     clear hK K'
     try simp only[Act.put,qzF,qzG,qzH]
     refine xab (rs:=[5]) (by kernel_rfl) (by simp) ?_
     intro i hi;simp only[List.mem_cons,List.not_mem_nil,or_false] at hi;subst hi;refine xaN (o:=⟨some 86,.buildSlice 53 1 #[(0,.tmp 85)],53,_,_,none⟩) rfl (fun K' hK=>?_)
     go_simp;refine hK _ _ (fun _=>?_) ?_
     ·exact hSl _ (xaf hbV5 (xak _ _))
     clear hK K'
     try simp only[Act.put,qzF,qzG,qzH]
     refine xab (rs:=[6]) (by kernel_rfl) (by simp) ?_
     intro i hi;simp only[List.mem_cons,List.not_mem_nil,or_false] at hi;subst hi;refine xaN (o:=⟨some 87,.call ⟨.builtin .append,#[.tmp 82,.tmp 86],#[53,53]⟩,53,_,_,none⟩) rfl (fun K' hK=>?_)
     have hL5:=(hL.later hbV5).later (xak w5 (.cells #[.int .i64 y.op,.int .i64 y.a,.int .i64 y.b,.int .i64 y.c,.string y.name] 59));obtain⟨v',w',hrun,r1,r2,r3,r4⟩:=xaL (w:=w5.alloc (.cells #[.int .i64 y.op,.int .i64 y.a,.int .i64 y.b,.int .i64 y.c,.string y.name] 59)) 53 53 59 _ 5 48 Try.underlying53 xnL rfl (by omega) (bm+3) s.code.length (.slice a s.code.length cap) (xa9 s.code) hL5.own w5.heap.size [.int .i64 y.op,.int .i64 y.a,.int .i64 y.b,.int .i64 y.c,.string y.name] rfl (qzJ w5 _) (by intro u hu;simp only[List.mem_cons,List.not_mem_nil,or_false] at hu;rcases hu with h | h | h | h | h<;>(subst h;rfl)) (by unfold maxLen;omega) (by omega) hL5.sz
     obtain⟨a',cap',rfl,-⟩:=r1.form;refine xct rfl (.tmp 82) (.tmp 86) 53 rfl (.slice a s.code.length cap) (.slice (some ⟨w5.heap.size,0,none⟩) 1 1) (.slice a' (s.code.length+1) cap') (by simp[Act.eval,Act.put]) (by simp[Act.eval,Act.put]) hrun ?_
     have hO':=OwnI.more (ys:=[y]) r1 rfl rfl;have hN0:=hL5.setC hO' r3;simp only[List.length_append,List.length_cons,List.length_nil,Nat.zero_add] at hN0;have hN:=xcr hN0;have d4:w'.cell? ⟨bm+1,4,none⟩=some (.slice a s.code.length cap):=by unfold World.cell?;rw[r3.block (bm+1) (by omega)];exact hL5.f4
     have df:∀ o,w'.frozen? ⟨bm+1,o,none⟩=false:=xbT (by rw[r3.block (bm+1) (by omega)];exact hL5.fb)
     have hS6:w'.cell? ⟨bm+1,4,none⟩=some (.slice a s.code.length cap)/\w'.cell? ⟨bx,0,none⟩=some (.int .i64 x.op)/\w'.cell? ⟨bx,1,none⟩=some (.int .i64 x.a)/\w'.cell? ⟨bx,2,none⟩=some (.int .i64 x.b)/\w'.cell? ⟨bx,3,none⟩=some (.int .i64 x.c)/\w'.cell? ⟨bx,4,none⟩=some (.string x.name):=by
      obtain⟨e0,e1,e2,e3,e4,e5⟩:=hSl _ (xaf hbV5 (xak w5 (.cells #[.int .i64 y.op,.int .i64 y.a,.int .i64 y.b,.int .i64 y.c,.string y.name] 59)))
      have hxo:∀ o v,(w5.alloc (.cells #[.int .i64 y.op,.int .i64 y.a,.int .i64 y.b,.int .i64 y.c,.string y.name] 59)).cell? ⟨bx,o,none⟩=some v->w'.cell? ⟨bx,o,none⟩=some v:=fun o v h=>by
       unfold World.cell? at h ⊢;rw[r4 bx (World.block_lt_of_cell? _ ⟨bx,o,none⟩ h) HBX.out]
       exact h
      exact⟨d4,hxo _ _ e1,hxo _ _ e2,hxo _ _ e3,hxo _ _ e4,hxo _ _ e5⟩
     refine hK _ _ (fun _=>?_) ?_
     ·exact hS6
     clear hK K'
     try simp only[Act.put,qzF,qzG,qzH]
     refine tj 7 (⟨some 88,.fieldAddr 62 (.tmp 11) 4,0,_,_,none⟩) (.pointer (some ⟨bm+1,4,none⟩)) (hS6) ?_ ?_
     ·rintro w⟨q0,q1,q2,q3,q4,q5⟩;go_simp
     try simp only[Act.put,qzF,qzG,qzH]
     refine xab (rs:=[8]) (by kernel_rfl) (by simp) ?_
     intro i hi;simp only[List.mem_cons,List.not_mem_nil,or_false] at hi;subst hi;refine xaN (o:=⟨none,.store 53 (.tmp 88) (.tmp 87),0,_,_,none⟩) rfl (fun K' hK=>?_)
     go_simp;refine hK _ _ (fun h=>absurd h (by decide)) ?_
     clear hK K'
     try simp only[Act.put,qzF,qzG,qzH]
     refine xaz (by kernel_rfl) ?_ _
     try simp only[Act.put,qzF,qzG,qzH]
     have HFin:=xcr ((HSTAY.out y hye _ _ _ hN.out));go_wp2
     go_roundg (m.code.length-(j+1))
     case measure=>omega
     case rel=>exact HFin.out
   | some lf=>
     obtain rfl:=hlf lf hst;obtain⟨hsm,-,-,hop14⟩:=xbv hX hst;have hla:=hsm.args;have hlt':=hsm.temps;have hll:=hsm.len;have hlx:=hsm.code;have lb0:V.cell? ⟨bl,0,none⟩=some (.string leaf.name):=by rw[qzB lbox];rfl
     have lb1:V.cell? ⟨bl,1,none⟩=some (.int .i64 leaf.args):=by rw[qzB lbox];rfl
     have lb2:V.cell? ⟨bl,2,none⟩=some (.int .i64 leaf.temps):=by rw[qzB lbox];rfl
     have lb3:V.cell? ⟨bl,3,none⟩=some (.int .i64 leaf.prim):=by rw[qzB lbox];rfl
     have lb4:V.cell? ⟨bl,4,none⟩=some (.slice al leaf.code.length cl):=by rw[qzB lbox];rfl
     have f0:=hL.f0;have f1:=hL.f1;have f2:=hL.f2;have f3:=hL.f3;have f4:=hL.f4;have m4:=hL.m4;have hwl:IntKind.i64.wrap ((m.code.length:Int)-(j:Int))=(m.code.length:Int)-(j:Int):=xat (by omega) (by omega)
     simp only[Option.isSome];go_wp2_with fail;refine (show Calls Try.prog 33 #[FsV ⟨(qc:Int),m.name,X.ez,s.temps,[]⟩ (.slice a s.code.length cap),MV leaf (.slice al leaf.code.length cl),.int .i64 ((m.code.length:Int)-(j:Int))] V _ from (xji ⟨(qc:Int),m.name,X.ez,s.temps,[]⟩ a s.code.length cap leaf al cl ((m.code.length:Int)-(j:Int)) V hla hlt' (by simp only;omega) (by omega)).mono ?_)
     rintro e w4 ⟨rfl,hb4⟩;dsimp only;replace hL:=hL.later hb4;replace hlc':=hlc'.later xa2 hb4;replace xb0:=qzA hb4 xb0;replace xb1:=qzA hb4 xb1;replace xb2:=qzA hb4 xb2;replace xb3:=qzA hb4 xb3;replace xb4:=qzA hb4 xb4;replace lbox:=xad lbox hb4;clear lb0 lb1 lb2 lb3 lb4 f0 f1 f2 f3 f4 m4 hszV xboxV;have hszV:=hL.sz
     by_cases hroom:xgy s.code.length s.temps leaf ((m.code.length:Int)-j)=true
     ·rw[hroom];have HWHO:Hid (xdZ X.cz sites m.code.length s.code.length s.temps j x=some leaf):=by show _=_;rw[HWH.out _ hst];simp[hroom]
      have hks:0<=sites.getD j (-1):=by
       unfold xa3 at hst
       split at hst
       ·rename_i h;exact h.2
       ·cases hst
      obtain⟨ks,hksj⟩:∃ ks,sites[j]?=some ks:=by
       cases h:sites[j]? with
       | none=>rw[List.getD_eq_getElem?_getD,h] at hks;simp at hks
       | some ks=>exact⟨ks,rfl⟩
      have HKS:Hid (sites.getD j (-1)=ks):=by show _=_;rw[List.getD_eq_getElem?_getD,hksj];rfl
      have hsl:j<sites.length:=xae hksj;obtain⟨bs,os,hse,-,y0⟩:=hrowS j ks hksj;subst hse;have y0':w.cell? ⟨bs,os+j,none⟩=some (.int .i64 ks):=by simpa [xpr] using y0
      have hbsl:bs<w.heap.size:=World.block_lt_of_cell? w ⟨bs,os+j,none⟩ y0';have y1:=hL.old (by omega) (qzA hBZ y0')
      have hr240:=of_decide_eq_true hroom;have hsj1:(j:Int)<(sites.length:Int):=by omega
      clear hst hlf hroom hb4 hb0V hbL hb3 y0 y0' hksj hks;generalize w4=V at *;have hSl:∀ w',Below V.heap.size V w'->w'.cell? ⟨bs,os+j,none⟩=some (.int .i64 ks)/\w'.cell? ⟨bl,1,none⟩=some (.int .i64 leaf.args):=fun w' hb=>⟨qzA hb y1,by rw[qzB (xad lbox hb)];rfl⟩
      have hS0:=hSl _ (qzL _ V).drew
      go_upto_region 14 with (fail)
      refine xav (S:=fun w'=>w'.cell? ⟨bs,os+j,none⟩=some (.int .i64 ks)/\w'.cell? ⟨bl,1,none⟩=some (.int .i64 leaf.args)) [9] (by kernel_rfl) ?_
      refine tj 0 (⟨some 89,.move (.tmp 3),48,_,_,none⟩) (.slice (some ⟨bs,os,none⟩) sites.length cs) (hS0) ?_ ?_
      ·rintro w⟨q0,q1⟩;go_simp
      try simp only[Act.put,qzF,qzG,qzH]
      refine tj 1 (⟨some 90,.move (.tmp 14),3,_,_,none⟩) (.int .i64 (j:Int)) (hS0) ?_ ?_
      ·rintro w⟨q0,q1⟩;go_simp
      try simp only[Act.put,qzF,qzG,qzH]
      refine tj 2 (⟨some 91,.indexAddr 48 (.tmp 89) (.tmp 90),0,_,_,none⟩) (.pointer (some ⟨bs,os+j,none⟩)) (hS0) ?_ ?_
      ·rintro w⟨q0,q1⟩;go_simp
      try simp only[Act.put,qzF,qzG,qzH]
      refine tj 3 (⟨some 92,.load 3 (.tmp 91),3,_,_,none⟩) (.int .i64 ks) (hS0) ?_ ?_
      ·rintro w⟨q0,q1⟩;go_simp
      try simp only[Act.put,qzF,qzG,qzH]
      refine tj 4 (⟨some 93,.fieldAddr 55 (.tmp 16) 1,0,_,_,none⟩) (.pointer (some ⟨bl,1,none⟩)) (hS0) ?_ ?_
      ·rintro w⟨q0,q1⟩;go_simp
      try simp only[Act.put,qzF,qzG,qzH]
      refine tj 5 (⟨some 94,.load 3 (.tmp 93),3,_,_,none⟩) (.int .i64 leaf.args) (hS0) ?_ ?_
      ·rintro w⟨q0,q1⟩;go_simp
      try simp only[Act.put,qzF,qzG,qzH]
      refine tj 6 (⟨some 95,.move (.tmp 14),3,_,_,none⟩) (.int .i64 (j:Int)) (hS0) ?_ ?_
      ·rintro w⟨q0,q1⟩;go_simp
      try simp only[Act.put,qzF,qzG,qzH]
      refine tj 7 (⟨some 96,.build 59 #[(0,.const (.int .i64 18)),(1,.tmp 92),(2,.tmp 94),(3,.tmp 95)],59,_,_,none⟩) (.agg #[.int .i64 18,.int .i64 ks,.int .i64 leaf.args,.int .i64 (j:Int),.string ⟨#[]⟩]) (hS0) ?_ ?_
      ·rintro w⟨q0,q1⟩;go_simp
      try simp only[Act.put,qzF,qzG,qzH]
      refine xab (rs:=[8]) (by kernel_rfl) (by simp) ?_
      intro i hi;simp only[List.mem_cons,List.not_mem_nil,or_false] at hi;subst hi;refine xaN (o:=⟨some 18,.alloc 59,0,_,_,none⟩) rfl (fun K' hK=>?_)
      go_simp;refine hK _ _ (fun _=>?_) ?_
      ·exact hSl _ (xaf (qzL _ V).drew (xak _ _))
      clear hK K'
      try simp only[Act.put,qzF,qzG,qzH]
      refine xab (rs:=[9]) (by kernel_rfl) (by simp) ?_
      intro i hi;simp only[List.mem_cons,List.not_mem_nil,or_false] at hi;subst hi;refine xaN (o:=⟨none,.store 59 (.tmp 18) (.tmp 96),0,_,_,none⟩) rfl (fun K' hK=>?_)
      go_simp;refine hK _ _ (fun h=>absurd h (by decide)) ?_
      clear hK K'
      try simp only[Act.put,qzF,qzG,qzH]
      refine xaz (by kernel_rfl) ?_ _
      try simp only[Act.put,qzF,qzG,qzH]
      have hbU:Below V.heap.size V (V.alloc (.cells #[.int .i64 18,.int .i64 ks,.int .i64 leaf.args,.int .i64 (j:Int),.string ⟨#[]⟩] 59)).drew:=(xak _ _).drew;have gbox:(V.alloc (.cells #[.int .i64 18,.int .i64 ks,.int .i64 leaf.args,.int .i64 (j:Int),.string ⟨#[]⟩] 59)).drew.heap[V.heap.size]?=some (.cells #[.int .i64 18,.int .i64 ks,.int .i64 leaf.args,.int .i64 (j:Int),.string ⟨#[]⟩] 59 (0,0)):=qzJ V _;have HBQ:Hid (some V.heap.size≠(Value.slice a s.code.length cap).ownBlock):=fun e=>by have:=(hL.own.lt _ e.symm).2;omega
      replace hL:=hL.later hbU;have hlc:=hlc'.later xa2 hbU;replace lbox:=xad lbox hbU;clear hSl hS0 y1 hbU hlc' xb0 xb1 xb2 xb3 xb4
      go_upto_region 15 with (fail)
      generalize hU:(V.alloc (.cells #[.int .i64 18,.int .i64 ks,.int .i64 leaf.args,.int .i64 (j:Int),.string ⟨#[]⟩] 59)).drew=U at *;generalize V.heap.size=bq at *
      have hSl:∀ w',Below U.heap.size U w'->w'.cell? ⟨bm+1,0,none⟩=some (.int .i64 (qc:Int))/\w'.cell? ⟨bm+1,1,none⟩=some (.string m.name)/\w'.cell? ⟨bm+1,2,none⟩=some (.int .i64 X.ez)/\w'.cell? ⟨bm+1,3,none⟩=some (.int .i64 s.temps)/\w'.cell? ⟨bm+1,4,none⟩=some (.slice a s.code.length cap)/\w'.cell? ⟨bl,0,none⟩=some (.string leaf.name)/\w'.cell? ⟨bl,1,none⟩=some (.int .i64 leaf.args)/\w'.cell? ⟨bl,2,none⟩=some (.int .i64 leaf.temps)/\w'.cell? ⟨bl,3,none⟩=some (.int .i64 leaf.prim)/\w'.cell? ⟨bl,4,none⟩=some (.slice al leaf.code.length cl)/\w'.cell? ⟨bq,0,none⟩=some (.int .i64 18)/\w'.cell? ⟨bq,1,none⟩=some (.int .i64 ks)/\w'.cell? ⟨bq,2,none⟩=some (.int .i64 leaf.args)/\w'.cell? ⟨bq,3,none⟩=some (.int .i64 (j:Int))/\w'.cell? ⟨bq,4,none⟩=some (.string ⟨#[]⟩):=fun w' hb=>by
       have h1:=hL.later hb;have h2:=xad lbox hb;have h3:=xad gbox hb
       exact⟨h1.f0,h1.f1,h1.f2,h1.f3,h1.f4,by rw[qzB h2];rfl,by rw[qzB h2];rfl,by rw[qzB h2];rfl,by rw[qzB h2];rfl,by rw[qzB h2];rfl,by rw[qzB h3];rfl,by rw[qzB h3];rfl,by rw[qzB h3];rfl,by rw[qzB h3];rfl,by rw[qzB h3];rfl⟩
      have hS0:=hSl _ (qzL _ U).drew;refine xav (S:=fun w'=>w'.cell? ⟨bm+1,0,none⟩=some (.int .i64 (qc:Int))/\w'.cell? ⟨bm+1,1,none⟩=some (.string m.name)/\w'.cell? ⟨bm+1,2,none⟩=some (.int .i64 X.ez)/\w'.cell? ⟨bm+1,3,none⟩=some (.int .i64 s.temps)/\w'.cell? ⟨bm+1,4,none⟩=some (.slice a s.code.length cap)/\w'.cell? ⟨bl,0,none⟩=some (.string leaf.name)/\w'.cell? ⟨bl,1,none⟩=some (.int .i64 leaf.args)/\w'.cell? ⟨bl,2,none⟩=some (.int .i64 leaf.temps)/\w'.cell? ⟨bl,3,none⟩=some (.int .i64 leaf.prim)/\w'.cell? ⟨bl,4,none⟩=some (.slice al leaf.code.length cl)/\w'.cell? ⟨bq,0,none⟩=some (.int .i64 18)/\w'.cell? ⟨bq,1,none⟩=some (.int .i64 ks)/\w'.cell? ⟨bq,2,none⟩=some (.int .i64 leaf.args)/\w'.cell? ⟨bq,3,none⟩=some (.int .i64 (j:Int))/\w'.cell? ⟨bq,4,none⟩=some (.string ⟨#[]⟩)) [10] (by kernel_rfl) ?_
      refine tj 0 (⟨some 97,.fieldAddr 62 (.tmp 11) 4,0,_,_,none⟩) (.pointer (some ⟨bm+1,4,none⟩)) (hS0) ?_ ?_
      ·rintro w⟨q0,q1,q2,q3,q4,q5,q6,q7,q8,q9,q10,q11,q12,q13,q14⟩;go_simp
      try simp only[Act.put,qzF,qzG,qzH]
      refine tj 1 (⟨some 98,.load 53 (.tmp 97),53,_,_,none⟩) (.slice a s.code.length cap) (hS0) ?_ ?_
      ·rintro w⟨q0,q1,q2,q3,q4,q5,q6,q7,q8,q9,q10,q11,q12,q13,q14⟩;go_simp
      try simp only[Act.put,qzF,qzG,qzH]
      refine tj 2 (⟨some 99,.load 55 (.tmp 16),55,_,_,none⟩) (MV leaf (.slice al leaf.code.length cl)) (hS0) ?_ ?_
      ·rintro w⟨q0,q1,q2,q3,q4,q5,q6,q7,q8,q9,q10,q11,q12,q13,q14⟩;go_simp
      try simp only[Act.put,qzF,qzG,qzH]
      refine tj 3 (⟨some 100,.load 59 (.tmp 18),59,_,_,none⟩) (IV (ins 18 ks leaf.args (j:Int))) (hS0) ?_ ?_
      ·rintro w⟨q0,q1,q2,q3,q4,q5,q6,q7,q8,q9,q10,q11,q12,q13,q14⟩;go_simp
      try simp only[Act.put,qzF,qzG,qzH]
      refine tj 4 (⟨some 101,.load 62 (.tmp 11),62,_,_,none⟩) (FsV ⟨(qc:Int),m.name,X.ez,s.temps,[]⟩ (.slice a s.code.length cap)) (hS0) ?_ ?_
      ·rintro w⟨q0,q1,q2,q3,q4,q5,q6,q7,q8,q9,q10,q11,q12,q13,q14⟩;go_simp
      try simp only[Act.put,qzF,qzG,qzH]
      refine tj 5 (⟨some 102,.load 55 (.tmp 16),55,_,_,none⟩) (MV leaf (.slice al leaf.code.length cl)) (hS0) ?_ ?_
      ·rintro w⟨q0,q1,q2,q3,q4,q5,q6,q7,q8,q9,q10,q11,q12,q13,q14⟩;go_simp
      try simp only[Act.put,qzF,qzG,qzH]
      refine xab (rs:=[6]) (by kernel_rfl) (by simp) ?_
      intro i hi;simp only[List.mem_cons,List.not_mem_nil,or_false] at hi;subst hi;refine xaN (o:=⟨some 103,.call ⟨.value (.func 36),#[.tmp 101,.tmp 102],#[62,55]⟩,101,_,_,none⟩) rfl (fun K' hK=>?_)
      refine xaZ rfl 36 (.func 36) #[.tmp 101,.tmp 102] _ rfl #[] rfl #[FsV ⟨(qc:Int),m.name,X.ez,s.temps,[]⟩ (.slice a s.code.length cap),MV leaf (.slice al leaf.code.length cl)] (by simp[Act.eval,Act.put]) (cf28 _ _) ?_
      refine (show Calls Try.prog 36 #[FsV ⟨(qc:Int),m.name,X.ez,s.temps,[]⟩ (.slice a s.code.length cap),MV leaf (.slice al leaf.code.length cl)] U.drew _ from (xjD ⟨(qc:Int),m.name,X.ez,s.temps,[]⟩ a s.code.length cap leaf al cl U.drew hla hlt' (by simp only;omega) (by omega) hll).mono ?_)
      rintro e w5 ⟨rfl,hb5⟩;refine⟨_,rfl,?_⟩;have hbV5:Below U.heap.size U w5:=xaf (qzL _ U).drew hb5;simp only;refine hK _ _ (fun _=>?_) ?_
      ·exact hSl _ hbV5
      clear hK K'
      try simp only[Act.put,qzF,qzG,qzH]
      refine xab (rs:=[7]) (by kernel_rfl) (by simp) ?_
      intro i hi;simp only[List.mem_cons,List.not_mem_nil,or_false] at hi;subst hi;refine xaN (o:=⟨some 104,.call ⟨.value (.func 35),#[.tmp 99,.tmp 100,.tmp 103],#[55,59,101]⟩,53,_,_,none⟩) rfl (fun K' hK=>?_)
      refine xaZ rfl 35 (.func 35) #[.tmp 99,.tmp 100,.tmp 103] _ rfl #[] rfl #[MV leaf (.slice al leaf.code.length cl),IV (ins 18 ks leaf.args (j:Int)),PlV s.temps (s.temps+1) (s.temps+1+leaf.args) (xbw leaf s.code.length) (xbw leaf s.code.length+leaf.code.length)] (by simp[Act.eval,Act.put]) (cf27 _ _) ?_
      refine (show Calls Try.prog 35 #[MV leaf (.slice al leaf.code.length cl),IV (ins 18 ks leaf.args (j:Int)),PlV s.temps (s.temps+1) (s.temps+1+leaf.args) (xbw leaf s.code.length) (xbw leaf s.code.length+leaf.code.length)] w5 _ from (xmH leaf (ins 18 ks leaf.args (j:Int)) s.temps s.code.length _ w5 (hlc.later xa2 hbV5) hla hlt' (by omega) (by omega) hll hlx).mono ?_)
      rintro e w6 ⟨ap,cp,rfl,hOp,hb6⟩;refine⟨_,rfl,?_⟩;have hbV6:Below U.heap.size U w6:=xaf hbV5 hb6;refine hK _ _ (fun _=>?_) ?_
      ·exact hSl _ hbV6
      clear hK K'
      try simp only[Act.put,qzF,qzG,qzH]
      have HPL:=xcr (xbB leaf (ins 18 ks leaf.args (j:Int)) s.temps s.code.length);obtain⟨Pc,HPc⟩:∃ Pc,Hid (Pc=xbu leaf (ins 18 ks leaf.args (j:Int)) s.temps s.code.length):=⟨_,rfl⟩;simp only[← HPc.out] at hOp HPL ⊢;refine xab (rs:=[8]) (by kernel_rfl) (by simp) ?_
      intro i hi;simp only[List.mem_cons,List.not_mem_nil,or_false] at hi;subst hi;refine xaN (o:=⟨some 105,.call ⟨.builtin .append,#[.tmp 98,.tmp 104],#[53,53]⟩,53,_,_,none⟩) rfl (fun K' hK=>?_)
      have hL6:=hL.later hbV6;have hp3:0<Pc.length:=by have:=HPL.out;omega
      have hpl:Pc.length<=100:=by have:=HPL.out;omega
      obtain⟨adp,hap⟩:∃ adp,ap=some adp:=by
       obtain⟨-,h | ⟨g',o',c',cur,e,-⟩⟩:=hOp
       ·have:=h.2;omega
       ·cases e;exact⟨_,rfl⟩
      subst hap;obtain⟨v',w',hrun,r1,r2,r3,r4⟩:=xfv (w:=w6) 53 53 59 _ 5 48 Try.underlying53 xnL rfl (by omega) (bm+3) s.code.length (.slice a s.code.length cap) (xa9 s.code) hL6.own adp Pc.length cp hp3 (xa9 Pc) (xdT _) (xnP hOp) (xho _) (by unfold maxLen;omega) (by omega) hL6.sz
      obtain⟨a',cap',rfl,-⟩:=r1.form;refine xct rfl (.tmp 98) (.tmp 104) 53 rfl (.slice a s.code.length cap) (.slice (some adp) Pc.length cp) (.slice a' (s.code.length+Pc.length) cap') (by simp[Act.eval,Act.put]) (by simp[Act.eval,Act.put]) hrun ?_
      have hO':=OwnI.more (ys:=Pc) r1 rfl rfl;have hN0:=hL6.setC hO' r3;simp only[List.length_append] at hN0;have hN:=xcr hN0;have d4:w'.cell? ⟨bm+1,4,none⟩=some (.slice a s.code.length cap):=by unfold World.cell?;rw[r3.block (bm+1) (by omega)];exact hL6.f4
      have df:∀ o,w'.frozen? ⟨bm+1,o,none⟩=false:=xbT (by rw[r3.block (bm+1) (by omega)];exact hL6.fb)
      have hS6:w'.cell? ⟨bm+1,0,none⟩=some (.int .i64 (qc:Int))/\w'.cell? ⟨bm+1,1,none⟩=some (.string m.name)/\w'.cell? ⟨bm+1,2,none⟩=some (.int .i64 X.ez)/\w'.cell? ⟨bm+1,3,none⟩=some (.int .i64 s.temps)/\w'.cell? ⟨bm+1,4,none⟩=some (.slice a s.code.length cap)/\w'.cell? ⟨bl,0,none⟩=some (.string leaf.name)/\w'.cell? ⟨bl,1,none⟩=some (.int .i64 leaf.args)/\w'.cell? ⟨bl,2,none⟩=some (.int .i64 leaf.temps)/\w'.cell? ⟨bl,3,none⟩=some (.int .i64 leaf.prim)/\w'.cell? ⟨bl,4,none⟩=some (.slice al leaf.code.length cl)/\w'.cell? ⟨bq,0,none⟩=some (.int .i64 18)/\w'.cell? ⟨bq,1,none⟩=some (.int .i64 ks)/\w'.cell? ⟨bq,2,none⟩=some (.int .i64 leaf.args)/\w'.cell? ⟨bq,3,none⟩=some (.int .i64 (j:Int))/\w'.cell? ⟨bq,4,none⟩=some (.string ⟨#[]⟩):=by
       obtain⟨e0,e1,e2,e3,e4,l0,l1,l2,l3,l4,g0,g1,g2,g3,g4⟩:=hSl _ hbV6
       have hxo:∀ b,some b≠(Value.slice a s.code.length cap).ownBlock->∀ o v,w6.cell? ⟨b,o,none⟩=some v->w'.cell? ⟨b,o,none⟩=some v:=fun b hb o v h=>by
        unfold World.cell? at h ⊢;rw[r4 b (World.block_lt_of_cell? _ ⟨b,o,none⟩ h) hb]
        exact h
       have hf:∀ o v,w6.cell? ⟨bm+1,o,none⟩=some v->w'.cell? ⟨bm+1,o,none⟩=some v:=fun o v h=>by unfold World.cell? at h ⊢;rw[r3.block (bm+1) (by omega)];exact h
       exact⟨hf _ _ e0,hf _ _ e1,hf _ _ e2,hf _ _ e3,hf _ _ e4,hxo _ HBL.out _ _ l0,hxo _ HBL.out _ _ l1,hxo _ HBL.out _ _ l2,hxo _ HBL.out _ _ l3,hxo _ HBL.out _ _ l4,hxo _ HBQ.out _ _ g0,hxo _ HBQ.out _ _ g1,hxo _ HBQ.out _ _ g2,hxo _ HBQ.out _ _ g3,hxo _ HBQ.out _ _ g4⟩
      refine hK _ _ (fun _=>?_) ?_
      ·exact hS6
      clear hK K'
      try simp only[Act.put,qzF,qzG,qzH]
      refine tj 9 (⟨some 106,.fieldAddr 62 (.tmp 11) 4,0,_,_,none⟩) (.pointer (some ⟨bm+1,4,none⟩)) (hS6) ?_ ?_
      ·rintro w⟨q0,q1,q2,q3,q4,q5,q6,q7,q8,q9,q10,q11,q12,q13,q14⟩;go_simp
      try simp only[Act.put,qzF,qzG,qzH]
      refine xab (rs:=[10]) (by kernel_rfl) (by simp) ?_
      intro i hi;simp only[List.mem_cons,List.not_mem_nil,or_false] at hi;subst hi;refine xaN (o:=⟨none,.store 53 (.tmp 106) (.tmp 105),0,_,_,none⟩) rfl (fun K' hK=>?_)
      go_simp;refine hK _ _ (fun h=>absurd h (by decide)) ?_
      clear hK K'
      try simp only[Act.put,qzF,qzG,qzH]
      refine xaz (by kernel_rfl) ?_ _
      try simp only[Act.put,qzF,qzG,qzH]
      have hMN:=hN.out;have f3:=hMN.f3;have ff:=hMN.ff;obtain⟨-,-,-,-,-,-,l1',l2',-,-,-,-,-,-,-⟩:=hS6;have l1:=xp9 (b':=bm+1) (o':=4) (u:=.slice a' (s.code.length+Pc.length) cap') l1' (by omega)
      have l2:=xp9 (b':=bm+1) (o':=4) (u:=.slice a' (s.code.length+Pc.length) cap') l2' (by omega)
      have h1:IntKind.i64.wrap (1+leaf.args)=1+leaf.args:=xat (by omega) (by omega)
      have h2:IntKind.i64.wrap (1+leaf.args+leaf.temps)=1+leaf.args+leaf.temps:=xat (by omega) (by omega)
      have h3:IntKind.i64.wrap (s.temps+(1+leaf.args+leaf.temps))=s.temps+1+leaf.args+leaf.temps:=by rw[xat (by omega) (by omega)];omega
      have h4:IntKind.i64.wrap ((s.pieces:Int)+1)=(s.pieces:Int)+1:=xat (by omega) (by omega)
      have HFin:=xcr (HPC.out leaf HWHO.out (by rw[HKS.out,← HPc.out];exact hMN.setT (s.temps+1+leaf.args+leaf.temps)))
      generalize (w'.setCell ⟨bm+1,4,none⟩ (.slice a' (s.code.length+Pc.length) cap'))=W6 at *;clear hN hMN hN0 hL6 hOp r1 r2 r3 r4 hO' d4 df l1' l2' hSl hS0;go_wp2
      go_roundg (m.code.length-(j+1))
      case measure=>omega
      case rel=>exact HFin.out
     ·have hroom':xgy s.code.length s.temps leaf ((m.code.length:Int)-j)=false:=by simpa using hroom
      rw[hroom'];have HSTAY:Hid (∀ y,xbh x (j:Int)=y->∀ a' cap' W,MtL Z bm m (.slice (some ⟨bk,ok,none⟩) m.code.length ck) (qc:Int) X.ez s.temps (s.code++[y]) ((s.begins++List.replicate (m.code.length-j) 0).set j (s.code.length:Int)) a' cap' W->MtR X sites Z bm m (.slice (some ⟨bk,ok,none⟩) m.code.length ck) (qc:Int) (m.code.length-(j+1)) (.int .i64 (s.pieces:Int)) (.int .i64 ((j:Int)+1)) W):=fun y hy a' cap' W h=>by subst hy;exact HST.out (by rw[HWH.out _ hst];simp[hroom']) h
      clear hst hlf hroom hroom' hb4 hb0V hbL hb3;generalize w4=V at *
      go_upto_region 13 with (fail)
      have hSl:∀ w',Below V.heap.size V w'->w'.cell? ⟨bm+1,4,none⟩=some (.slice a s.code.length cap)/\w'.cell? ⟨bx,0,none⟩=some (.int .i64 x.op)/\w'.cell? ⟨bx,1,none⟩=some (.int .i64 x.a)/\w'.cell? ⟨bx,2,none⟩=some (.int .i64 x.b)/\w'.cell? ⟨bx,3,none⟩=some (.int .i64 x.c)/\w'.cell? ⟨bx,4,none⟩=some (.string x.name):=fun w' hb=>⟨(hL.later hb).f4,qzA hb xb0,qzA hb xb1,qzA hb xb2,qzA hb xb3,qzA hb xb4⟩
      have hS0:=hSl _ (qzL _ V).drew;refine xav (S:=fun w'=>w'.cell? ⟨bm+1,4,none⟩=some (.slice a s.code.length cap)/\w'.cell? ⟨bx,0,none⟩=some (.int .i64 x.op)/\w'.cell? ⟨bx,1,none⟩=some (.int .i64 x.a)/\w'.cell? ⟨bx,2,none⟩=some (.int .i64 x.b)/\w'.cell? ⟨bx,3,none⟩=some (.int .i64 x.c)/\w'.cell? ⟨bx,4,none⟩=some (.string x.name)) [8] (by kernel_rfl) ?_
      refine tj 0 (⟨some 81,.fieldAddr 62 (.tmp 11) 4,0,_,_,none⟩) (.pointer (some ⟨bm+1,4,none⟩)) (hS0) ?_ ?_
      ·rintro w⟨q0,q1,q2,q3,q4,q5⟩;go_simp
      try simp only[Act.put,qzF,qzG,qzH]
      refine tj 1 (⟨some 82,.load 53 (.tmp 81),53,_,_,none⟩) (.slice a s.code.length cap) (hS0) ?_ ?_
      ·rintro w⟨q0,q1,q2,q3,q4,q5⟩;go_simp
      try simp only[Act.put,qzF,qzG,qzH]
      refine tj 2 (⟨some 83,.load 59 (.tmp 15),59,_,_,none⟩) (IV x) (hS0) ?_ ?_
      ·rintro w⟨q0,q1,q2,q3,q4,q5⟩;go_simp
      try simp only[Act.put,qzF,qzG,qzH]
      refine tj 3 (⟨some 84,.move (.tmp 14),3,_,_,none⟩) (.int .i64 (j:Int)) (hS0) ?_ ?_
      ·rintro w⟨q0,q1,q2,q3,q4,q5⟩;go_simp
      try simp only[Act.put,qzF,qzG,qzH]
      refine xab (rs:=[4]) (by kernel_rfl) (by simp) ?_
      intro i hi;simp only[List.mem_cons,List.not_mem_nil,or_false] at hi;subst hi;refine xaN (o:=⟨some 85,.call ⟨.value (.func 34),#[.tmp 83,.tmp 84],#[59,3]⟩,59,_,_,none⟩) rfl (fun K' hK=>?_)
      refine xaZ rfl 34 (.func 34) #[.tmp 83,.tmp 84] _ rfl #[] rfl #[IV x,.int .i64 (j:Int)] (by simp[Act.eval,Act.put]) (cf26 _ _) ?_
      refine (show Calls Try.prog 34 #[IV x,.int .i64 (j:Int)] V.drew _ from (xfT x (j:Int) V.drew).mono ?_)
      rintro e w5 ⟨rfl,hb5⟩;refine⟨_,rfl,?_⟩;have hbV5:Below V.heap.size V w5:=xaf (qzL _ V).drew hb5;obtain⟨y,hye⟩:∃ y,xbh x (j:Int)=y:=⟨_,rfl⟩;simp only[hye];refine hK _ _ (fun _=>?_) ?_
      ·exact hSl _ hbV5
      clear hK K'
      try simp only[Act.put,qzF,qzG,qzH]
      refine xab (rs:=[5]) (by kernel_rfl) (by simp) ?_
      intro i hi;simp only[List.mem_cons,List.not_mem_nil,or_false] at hi;subst hi;refine xaN (o:=⟨some 86,.buildSlice 53 1 #[(0,.tmp 85)],53,_,_,none⟩) rfl (fun K' hK=>?_)
      go_simp;refine hK _ _ (fun _=>?_) ?_
      ·exact hSl _ (xaf hbV5 (xak _ _))
      clear hK K'
      try simp only[Act.put,qzF,qzG,qzH]
      refine xab (rs:=[6]) (by kernel_rfl) (by simp) ?_
      intro i hi;simp only[List.mem_cons,List.not_mem_nil,or_false] at hi;subst hi;refine xaN (o:=⟨some 87,.call ⟨.builtin .append,#[.tmp 82,.tmp 86],#[53,53]⟩,53,_,_,none⟩) rfl (fun K' hK=>?_)
      have hL5:=(hL.later hbV5).later (xak w5 (.cells #[.int .i64 y.op,.int .i64 y.a,.int .i64 y.b,.int .i64 y.c,.string y.name] 59));obtain⟨v',w',hrun,r1,r2,r3,r4⟩:=xaL (w:=w5.alloc (.cells #[.int .i64 y.op,.int .i64 y.a,.int .i64 y.b,.int .i64 y.c,.string y.name] 59)) 53 53 59 _ 5 48 Try.underlying53 xnL rfl (by omega) (bm+3) s.code.length (.slice a s.code.length cap) (xa9 s.code) hL5.own w5.heap.size [.int .i64 y.op,.int .i64 y.a,.int .i64 y.b,.int .i64 y.c,.string y.name] rfl (qzJ w5 _) (by intro u hu;simp only[List.mem_cons,List.not_mem_nil,or_false] at hu;rcases hu with h | h | h | h | h<;>(subst h;rfl)) (by unfold maxLen;omega) (by omega) hL5.sz
      obtain⟨a',cap',rfl,-⟩:=r1.form;refine xct rfl (.tmp 82) (.tmp 86) 53 rfl (.slice a s.code.length cap) (.slice (some ⟨w5.heap.size,0,none⟩) 1 1) (.slice a' (s.code.length+1) cap') (by simp[Act.eval,Act.put]) (by simp[Act.eval,Act.put]) hrun ?_
      have hO':=OwnI.more (ys:=[y]) r1 rfl rfl;have hN0:=hL5.setC hO' r3;simp only[List.length_append,List.length_cons,List.length_nil,Nat.zero_add] at hN0;have hN:=xcr hN0;have d4:w'.cell? ⟨bm+1,4,none⟩=some (.slice a s.code.length cap):=by unfold World.cell?;rw[r3.block (bm+1) (by omega)];exact hL5.f4
      have df:∀ o,w'.frozen? ⟨bm+1,o,none⟩=false:=xbT (by rw[r3.block (bm+1) (by omega)];exact hL5.fb)
      have hS6:w'.cell? ⟨bm+1,4,none⟩=some (.slice a s.code.length cap)/\w'.cell? ⟨bx,0,none⟩=some (.int .i64 x.op)/\w'.cell? ⟨bx,1,none⟩=some (.int .i64 x.a)/\w'.cell? ⟨bx,2,none⟩=some (.int .i64 x.b)/\w'.cell? ⟨bx,3,none⟩=some (.int .i64 x.c)/\w'.cell? ⟨bx,4,none⟩=some (.string x.name):=by
       obtain⟨e0,e1,e2,e3,e4,e5⟩:=hSl _ (xaf hbV5 (xak w5 (.cells #[.int .i64 y.op,.int .i64 y.a,.int .i64 y.b,.int .i64 y.c,.string y.name] 59)))
       have hxo:∀ o v,(w5.alloc (.cells #[.int .i64 y.op,.int .i64 y.a,.int .i64 y.b,.int .i64 y.c,.string y.name] 59)).cell? ⟨bx,o,none⟩=some v->w'.cell? ⟨bx,o,none⟩=some v:=fun o v h=>by
        unfold World.cell? at h ⊢;rw[r4 bx (World.block_lt_of_cell? _ ⟨bx,o,none⟩ h) HBX.out]
        exact h
       exact⟨d4,hxo _ _ e1,hxo _ _ e2,hxo _ _ e3,hxo _ _ e4,hxo _ _ e5⟩
      refine hK _ _ (fun _=>?_) ?_
      ·exact hS6
      clear hK K'
      try simp only[Act.put,qzF,qzG,qzH]
      refine tj 7 (⟨some 88,.fieldAddr 62 (.tmp 11) 4,0,_,_,none⟩) (.pointer (some ⟨bm+1,4,none⟩)) (hS6) ?_ ?_
      ·rintro w⟨q0,q1,q2,q3,q4,q5⟩;go_simp
      try simp only[Act.put,qzF,qzG,qzH]
      refine xab (rs:=[8]) (by kernel_rfl) (by simp) ?_
      intro i hi;simp only[List.mem_cons,List.not_mem_nil,or_false] at hi;subst hi;refine xaN (o:=⟨none,.store 53 (.tmp 88) (.tmp 87),0,_,_,none⟩) rfl (fun K' hK=>?_)
      go_simp;refine hK _ _ (fun h=>absurd h (by decide)) ?_
      clear hK K'
      try simp only[Act.put,qzF,qzG,qzH]
      refine xaz (by kernel_rfl) ?_ _
      try simp only[Act.put,qzF,qzG,qzH]
      have HFin:=xcr ((HSTAY.out y hye _ _ _ hN.out));go_wp2
      go_roundg (m.code.length-(j+1))
      case measure=>omega
      case rel=>exact HFin.out
  ·obtain rfl:j=m.code.length:=by omega
   have HFM:Hid (xce X (qc:Int) m sites=if (xah X.cz sites m m.code.length).pieces=0 then (xdw,false) else (⟨(qc:Int),m.name,X.ez,(xah X.cz sites m m.code.length).temps,xdC (xah X.cz sites m m.code.length).begins m.code (xah X.cz sites m m.code.length).code m.code.length⟩,true)):=rfl;have HBG:=xcr (xbF (xs:=X.cz) (sites:=sites) (m:=m) (k:=m.code.length) (qzC _));have HPS:=xcr (xfw (xs:=X.cz) (sites:=sites) (m:=m) m.code.length);have HIN:=xcr (xhV (xs:=X.cz) (sites:=sites) (m:=m) m.code.length);have HNM:=xcr (xkC hC (sites:=sites) (xri hC hm) m.code.length);obtain⟨i1,i2,i3,i4⟩:=xci hX hSm (sites:=sites) (k:=m.code.length) (qzC _)
   simp only[Nat.sub_self,List.replicate_zero,List.append_nil] at hL;generalize xah X.cz sites m m.code.length=s at *;have hBr:=hL.below hBZ (by omega)
   have q0:=hL.old (by omega) hzZ.z0
   have q1:=hL.old (by omega) hzZ.z1
   have q2:=hL.old (by omega) hzZ.z2
   have q3:=hL.old (by omega) hzZ.z3
   have q4:=hL.old (by omega) hzZ.z4
   have qf:∀ o,wr.frozen? ⟨w.heap.size+1,o,none⟩=false:=fun o=>by
    have:=hzZ.zf o;unfold World.frozen? at this ⊢;rw[hL.fix (w.heap.size+1) (by omega)];exact this
   by_cases hp:s.pieces=0
   ·have HZ:Hid (xce X (qc:Int) m sites=(xdw,false)):=by show _=_;rw[HFM.out,if_pos hp]
    have hp':((s.pieces:Int) == 0)=true:=by simp[hp]
    have HQ:=xcr (xmd (U:=wr) hBr);clear HFM hp;go_wp2;rw[HZ.out];refine qzK (v:=.tuple #[FsV xdw (.slice none 0 0),.bool false]) ?_ rfl HQ.out
    simp[results,Try.results11,go_sem,q0,q1,q2,q3,q4,xdw]
   ·have hpn:((s.pieces:Int) == 0)=false:=by simp;omega
    have hcl:0<s.code.length:=by have:=HPS.out;omega
    have HZ:Hid (xce X (qc:Int) m sites=(⟨(qc:Int),m.name,X.ez,s.temps,xdC s.begins m.code s.code m.code.length⟩,true)):=by show _=_;rw[HFM.out,if_neg hp]
    obtain⟨g,o,hao⟩:∃ g o,a=some ⟨g,o,none⟩:=by
     obtain⟨-,h | ⟨g',o',c',cur,e,-⟩⟩:=hL.own
     ·have:=h.2;omega
     ·cases e;exact⟨_,_,rfl⟩
    subst hao;have hgo:=hL.own.lt g rfl;have f4:=hL.f4;have m4:=hL.m4
    have hints:xc5 (fun b=>b=bm+2) wr (.slice (some ⟨bm+2,0,none⟩) m.code.length m.code.length) s.begins:=by
     have hl:=HBG.out;refine⟨_,_,by rw[hl],by omega,by unfold maxLen;omega,by omega,fun i x hx=>⟨bm+2,0,rfl,rfl,?_⟩⟩
     show wr.cell? ⟨bm+2,0+i*1+0,none⟩=_
     rw[show 0+i*1+0=i by omega]
     exact hL.g hx
    clear hp HFM HPS;go_wp2_with fail;refine (xo3 s.code m.code s.begins g o cap (bm+3) _ _ wr hL.own (hco.later xa2 hBr) hints (fun b hb=>by omega) (fun b hb=>by omega) HBG.out hn60 HIN.out).mono ?_
    rintro e w5 ⟨rfl,hO5,hb5,hblk5⟩;dsimp only;have hs5:=hb5.size;have hszw:=hL.sz;have hfb5:w5.heap[bm+1]?=some (.cells #[.int .i64 (qc:Int),.string m.name,.int .i64 X.ez,.int .i64 s.temps,.slice (some ⟨g,o,none⟩) s.code.length cap] 62 (0,0)):=by rw[hblk5 (bm+1) (by omega) (by omega)];exact hL.fb
    have hold:∀ k v,wr.cell? ⟨w.heap.size+1,k,none⟩=some v->w5.cell? ⟨w.heap.size+1,k,none⟩=some v:=fun k v h=>by unfold World.cell? at h ⊢;rw[hblk5 (w.heap.size+1) (by omega) (by omega)];exact h
    replace q0:=hold _ _ q0;replace q1:=hold _ _ q1;replace q2:=hold _ _ q2;replace q3:=hold _ _ q3;replace q4:=hold _ _ q4;replace qf:∀ o,w5.frozen? ⟨w.heap.size+1,o,none⟩=false:=fun o=>by have:=qf o;unfold World.frozen? at this ⊢;rw[hblk5 (w.heap.size+1) (by omega) (by omega)];exact this
    have p0:w5.cell? ⟨bm+1,0,none⟩=some (.int .i64 (qc:Int)):=by rw[qzB hfb5];rfl
    have p1:w5.cell? ⟨bm+1,1,none⟩=some (.string m.name):=by rw[qzB hfb5];rfl
    have p2:w5.cell? ⟨bm+1,2,none⟩=some (.int .i64 X.ez):=by rw[qzB hfb5];rfl
    have p3:w5.cell? ⟨bm+1,3,none⟩=some (.int .i64 s.temps):=by rw[qzB hfb5];rfl
    have p4:w5.cell? ⟨bm+1,4,none⟩=some (.slice (some ⟨g,o,none⟩) s.code.length cap):=by rw[qzB hfb5];rfl
    have hLed:=xdi s.begins m.code s.code m.code.length;have hrow5:xaR (fun b=>w.heap.size+2<=b/\b<w5.heap.size) w5 (.slice (some ⟨g,o,none⟩) (xdC s.begins m.code s.code m.code.length).length cap) (xdC s.begins m.code s.code m.code.length):=xrl hO5 (xpe HNM.out _) (fun b h1 h2=>⟨by omega,h2⟩) (by omega)
    have hB5:Below w.heap.size w w5:=hBr.trans ⟨hb5.os,hb5.tape,hb5.output,hb5.size,fun b hb=>hb5.block b (by omega)⟩
    have HQ:=xcr (xo9 (U:=w5) (r:=(⟨(qc:Int),m.name,X.ez,s.temps,xdC s.begins m.code s.code m.code.length⟩,true)) hB5 hrow5);simp only[hLed] at HQ;clear hold hrow5 hO5 hfb5 hblk5 hb5 f4 m4 hints hLed;go_wp2;rw[HZ.out];refine qzK (v:=.tuple #[FsV ⟨(qc:Int),m.name,X.ez,s.temps,xdC s.begins m.code s.code m.code.length⟩ (.slice (some ⟨g,o,none⟩) s.code.length cap),.bool true]) ?_ rfl HQ.out
    simp[results,Try.results11,go_sem,q0,q1,q2,q3,q4]
def xch (X:QW)(c k:Int)(sites:List Int):Fst × Bool:=match xaI X.cz c k with
 | none=>(xdw,false)
 | some m=>xce X c m sites
theorem xjr {P Q:Nat->Prop}(X:QW)(c k:Int)(hm:xaI X.cz c k=none)(sites:List Int)(cv hv sv:Value)(w:World)(hC:xai P w cv X.cz)(hH:xaD P w hv X.heap)(hS:xc5 Q w sv sites) :
  Calls Try.prog 11 #[WV cv hv X.ez,.int .i64 c,.int .i64 k,sv] w fun e w'=>xiz w (xdw,false) e w':=by
 obtain⟨ac,cc,rfl,-,hcc,-,-⟩:=id hC;obtain⟨ah,ch,rfl,-⟩:=id hH;have hbW:=xbP w (.cells #[.slice ac X.cz.length cc,.slice ah X.heap.length ch,.int .i64 X.ez] 25) (.cells #[.int .i64 0,.string ⟨#[]⟩,.int .i64 0,.int .i64 0,.slice none 0 0] 62);go_enter Try.func11,Try.ntmps11;go_wp2_with fail;refine (xkO X c k _ _ _ (hC.later xaA hbW) (hH.later xaE hbW)).mono ?_;rintro e w1 ⟨rfl,hb1⟩;rw[show xgw X.cz c k=none from hm]
 dsimp only;have hB1:=xaf hbW hb1;have zz:=xnG w (.slice ac X.cz.length cc) (.slice ah X.heap.length ch) X.ez;replace zz:=zz.later hb1;obtain⟨k0,k1,k2,q0,q1,q2,q3,q4,qf,hzz⟩:=id zz;have HQ:=xcr (xmd (U:=w1) hB1);go_wp2;refine qzK (v:=.tuple #[FsV xdw (.slice none 0 0),.bool false]) ?_ rfl HQ.out
 simp[results,Try.results11,go_sem,q0,q1,q2,q3,q4,xdw]
theorem xej {P Q:Nat->Prop}(X:QW)(hX:xaH X=0)(c k:Int)(sites:List Int)(cv hv sv:Value)(w:World)(hC:xai P w cv X.cz)(hH:xaD P w hv X.heap)(hS:xc5 Q w sv sites) :
  Calls Try.prog 11 #[WV cv hv X.ez,.int .i64 c,.int .i64 k,sv] w fun e w'=>xiz w (xch X c k sites) e w':=by
 unfold xch
 cases hm:xaI X.cz c k with
 | none=>exact xjr X c k hm sites cv hv sv w hC hH hS
 | some m=>exact xjB X hX c k m hm sites cv hv sv w hC hH hS
def jmp (y:QI):Prop:=y.op=15\/y.op=16
theorem xhy (a:Int):∀ (n:Nat),∀ y∈xdd a n,y.op=11
 | 0,y,h=>by cases h
 | n+1,y,h=>by
  unfold xdd at h
  rcases List.mem_cons.1 h with rfl | h
  ·rfl
  ·exact xhy a n y h
theorem xjY (a:Int)(n:Nat):∀ y∈xco a n,y.op=6\/y.op=11:=by
 intro y h;unfold xco at h;rw[List.mem_flatMap] at h;obtain⟨k,-,h⟩:=h;simp only[List.mem_cons,List.not_mem_nil,or_false] at h
 rcases h with rfl | rfl
 ·exact Or.inl rfl
 ·exact Or.inr rfl
theorem xlA {leaf:QM}(hs:Sml leaf)(self args temps first behind:Int)(hf:0<=first)(hb:behind=first+leaf.code.length){x:QI}(hx:x∈leaf.code):(xay self args temps first behind x).op≠18/\(jmp (xay self args temps first behind x)->0<=(xay self args temps first behind x).a/\(xay self args temps first behind x).a<=behind):=by
 obtain⟨p1,p2,-⟩:=hs.plain x hx;have hj:=hs.jump x hx;unfold jmp xay
 split
 ·exact⟨by simp,fun h=>by simp at h⟩
 ·split
  ·exact⟨by simp,fun h=>by simp at h⟩
  ·split
   ·rename_i h;exact⟨by simp;omega,fun h'=>by simp at h';omega⟩
   ·split
    ·exact⟨by simp,fun h=>by simp at h⟩
    ·split
     ·exact⟨by simp,fun h=>by simp at h⟩
     ·split
      ·rename_i h;have:=hj h;exact⟨by simp;omega,fun _=>by simp;omega⟩
      ·split
       ·exact⟨by simp,fun _=>by simp;omega⟩
       ·exact⟨by omega,fun h'=>by omega⟩
theorem xg0 {leaf:QM}(hs:Sml leaf)(guard:QI)(self n:Int)(hn:0<=n):∀ y∈xbu leaf guard self n,y=guard\/(y.op≠18/\(jmp y->0<=y.a/\y.a<=n+(xbu leaf guard self n).length)):=by
 intro y hy;rw[xbB];have ha:=hs.args;have ht:=hs.temps;unfold xbu at hy
 rcases List.mem_append.1 hy with h | h
 ·unfold xfy at h;simp only[List.mem_append,List.mem_cons,List.not_mem_nil,or_false] at h
  rcases h with ((((h | h) | h) | h) | h)
  ·exact Or.inl h
  ·subst h;exact Or.inr ⟨by simp,fun h=>by simp[jmp] at h⟩
  ·have:=xhy _ _ y h;exact Or.inr ⟨by omega,fun h=>by simp only[jmp] at h;omega⟩
  ·subst h;exact Or.inr ⟨by simp,fun h=>by simp[jmp] at h⟩
  ·have:=xjY _ _ y h;exact Or.inr ⟨by omega,fun h=>by simp only[jmp] at h;omega⟩
 ·obtain⟨x,hx,rfl⟩:=List.mem_map.1 h;obtain⟨g1,g2⟩:=xlA hs self (self+1) (self+1+leaf.args) (xbw leaf n) (xbw leaf n+leaf.code.length) (by unfold xbw;omega) rfl hx
  refine Or.inr ⟨g1,fun hj=>?_⟩
  have:=g2 hj;unfold xbw at *
  omega
theorem xoR (leaf:QM)(guard:QI)(self n:Int):guard∈xbu leaf guard self n:=by
 unfold xbu xfy;simp
structure BGood (sites:List Int)(m:QM)(k:Nat)(s:Bd):Prop where
 len:k<=s.code.length
 jump:∀ y∈s.code,jmp y->0<=y.a/\(y.a<=s.code.length\/y.a<=m.code.length)
 guard:∀ y∈s.code,y.op=18->∃ j:Nat,j<k/\y.c=j/\sites[j]?=some y.a
 one:0<s.pieces->∃ y∈s.code,y.op=18
 stay:∀ j x,m.code[j]?=some x->j<k->x.op≠14->∃ b:Nat,s.begins[j]?=Option.some (b:Int)/\s.code[b]?=Option.some x
theorem xp4 {sites:List Int}{k:Nat}(h:0<=sites.getD k (-1)):sites[k]?=some (sites.getD k (-1)):=by
 rw[List.getD_eq_getElem?_getD] at h ⊢
 cases hs:sites[k]? with
 | none=>rw[hs] at h;simp at h
 | some v=>rfl
theorem xhu {X:QW}(h:xaH X=0){sites:List Int}{m:QM}(hm:Sml m):∀ {k:Nat},k<=m.code.length->BGood sites m k (xah X.cz sites m k)
 | 0,_=>⟨Nat.zero_le _,fun y hy=>by simp[xah] at hy,fun y hy=>by simp[xah] at hy,fun h=>by simp[xah] at h,fun j x _ hj=>by omega⟩
 | k+1,hk=>by
  have ih:=xhu h hm (sites:=sites) (k:=k) (by omega)
  have hbl:=xbF (xs:=X.cz) (sites:=sites) (m:=m) (k:=k) (by omega)
  have hx:m.code[k]?=some m.code[k]:=List.getElem?_eq_getElem (by omega)
  have hxm:m.code[k]∈m.code:=List.getElem_mem _;rw[xbg hx];generalize xah X.cz sites m k=s at *;generalize m.code[k]=x at *
  have hold:∀ j y,m.code[j]?=some y->j<k->y.op≠14->∀ (e:List QI),∃ b:Nat,(s.begins++[(s.code.length:Int)])[j]?=some (b:Int)/\(s.code++e)[b]?=some y:=by
   intro j y hy hj ho e;obtain⟨b,h1,h2⟩:=ih.stay j y hy hj ho
   exact⟨b,by rw[List.getElem?_append_left (by omega)];exact h1,by rw[List.getElem?_append_left (xae h2)];exact h2⟩
  obtain⟨p1,p2,-⟩:=hm.plain x hxm;unfold xdA
  cases hw:xdZ X.cz sites m.code.length s.code.length s.temps k x with
  | none=>
   dsimp only;have hso:(xbh x (k:Int)).op=x.op:=by unfold xbh;split<;>rfl
   refine⟨by simp;exact ih.len,fun y hy hj=>?_,fun y hy ho=>?_,fun hp=>?_,fun j y hy hj ho=>?_⟩
   ·rcases List.mem_append.1 hy with h' | h'
    ·have:=ih.jump y h' hj;rw[List.length_append];simp;omega
    ·rw[List.mem_singleton] at h';subst h';have hj':x.op=15\/x.op=16:=by unfold jmp at hj;rw[hso] at hj;exact hj
     have e:xbh x (k:Int)=x:=by unfold xbh;rw[if_neg (by omega)]
     rw[e];have:=hm.jump x hxm hj'
     omega
   ·rcases List.mem_append.1 hy with h' | h'
    ·obtain⟨j,h1,h2⟩:=ih.guard y h' ho;exact⟨j,by omega,h2⟩
    ·rw[List.mem_singleton] at h';subst h';rw[hso] at ho;omega
   ·obtain⟨y,h1,h2⟩:=ih.one hp;exact⟨y,List.mem_append_left _ h1,h2⟩
   ·by_cases hjk:j<k
    ·exact hold j y hy hjk ho _
    ·have hjk':j=k:=by omega
     subst hjk';rw[hx] at hy;cases hy;have e:xbh x (j:Int)=x:=by unfold xbh;rw[if_neg ho]
     refine⟨s.code.length,?_,?_⟩
     ·rw[List.getElem?_append_right (by omega),hbl];simp
     ·rw[e,List.getElem?_append_right (qzC _)];simp
  | some leaf=>
   have hst:xa3 X.cz sites k x=some leaf:=by
    unfold xdZ at hw
    split at hw
    ·cases hw
    ·rename_i l hl
     split at hw
     ·cases hw;exact hl
     ·cases hw
   obtain⟨hsm,-,-,ho14⟩:=xbv h hst
   have hsi:0<=sites.getD k (-1):=by
    unfold xa3 at hst
    split at hst
    ·rename_i hh;exact hh.2
    ·cases hst
   dsimp only;have hpg:=xg0 hsm (ins 18 (sites.getD k (-1)) leaf.args k) s.temps s.code.length (by omega)
   refine⟨by rw[List.length_append,xbB];have:=ih.len;omega,fun y hy hj=>?_,fun y hy ho=>?_,fun _=>⟨_,List.mem_append_right _ (xoR leaf _ _ _),rfl⟩,fun j y hy hj ho=>?_⟩
   ·rw[List.length_append]
    rcases List.mem_append.1 hy with h' | h'
    ·have:=ih.jump y h' hj;omega
    ·rcases hpg y h' with rfl | ⟨-,h2⟩
     ·simp[jmp] at hj
     ·have:=h2 hj;omega
   ·rcases List.mem_append.1 hy with h' | h'
    ·obtain⟨j,h1,h2⟩:=ih.guard y h' ho;exact⟨j,by omega,h2⟩
    ·rcases hpg y h' with rfl | ⟨h2,-⟩
     ·exact⟨k,by omega,rfl,xp4 hsi⟩
     ·exact absurd ho h2
   ·by_cases hjk:j<k
    ·exact hold j y hy hjk ho _
    ·have hjk':j=k:=by omega
     subst hjk';rw[hx] at hy;cases hy
     exact absurd ho14 ho
theorem xhn {l:List QI}{i:Nat}{f:QI->QI}{y:QI}(h:y∈l.modify i f):y∈l\/∃ z,l[i]?=some z/\y=f z:=by
 obtain⟨j,hj⟩:=List.mem_iff_getElem?.1 h;rw[List.getElem?_modify] at hj
 by_cases e:i=j
 ·subst e
  cases hz:l[i]? with
  | none=>rw[hz] at hj;simp at hj
  | some z=>rw[hz] at hj;simp at hj;exact Or.inr ⟨z,rfl,hj.symm⟩
 ·simp[e] at hj
  exact Or.inl (List.mem_iff_getElem?.2 ⟨j,hj⟩)
theorem xl3 {begins:List Int}{plain code:List QI}:∀ k,(xdC begins plain code k).map (·.op)=code.map (·.op)
 | 0=>rfl
 | k+1=>by
  unfold xdC;have ih:=xl3 (begins:=begins) (plain:=plain) (code:=code) k
  split
  ·split
   ·rename_i t _;rw[← ih]
    apply List.ext_getElem?
    intro i;simp only[List.getElem?_map,List.getElem?_modify]
    cases (xdC begins plain code k)[i]? with
    | none=>rfl
    | some z=>simp;split<;>rfl
   ·exact ih
  ·exact ih
theorem xkb {sites:List Int}{m:QM}{n:Nat}{s:Bd}(hs:BGood sites m n s)(hn:n=m.code.length)(hin:∀ b∈s.begins,0<=b/\b<(s.code.length:Int)):∀ k,k<=n->∀ y∈xdC s.begins m.code s.code k,(jmp y->0<=y.a/\y.a<=s.code.length)/\(y.op=18->∃ j:Nat,j<n/\y.c=j/\sites[j]?=some y.a)
 | 0,_,y,hy=>by
  have hl:=hs.len;refine⟨fun hj=>?_,hs.guard y hy⟩
  have:=hs.jump y hy hj
  omega
 | k+1,hk,y,hy=>by
  have ih:=xkb hs hn hin k (by omega)
  unfold xdC at hy
  split at hy
  ·rename_i x b hx hb
   split at hy
   ·rename_i t ht
    rcases xhn hy with h' | ⟨z,hz,rfl⟩
    ·exact ih y h'
    ·unfold xeh at ht
     split at ht
     ·rename_i hj;have hti:=hin t (List.mem_of_getElem? ht);obtain⟨b',hb',hc⟩:=hs.stay k x hx (by omega) (by omega)
      rw[hb] at hb';cases hb';have ho:=xl3 (begins:=s.begins) (plain:=m.code) (code:=s.code) k;have ho':=congrArg (fun l=>l[b']?) ho
      simp only[List.getElem?_map] at ho';simp only[Int.toNat_natCast] at hz;rw[hz,hc] at ho'
      simp at ho'
      refine⟨fun _=>⟨hti.1,by dsimp only;omega⟩,fun h18=>?_⟩
      dsimp only at h18
      omega
     ·cases ht
   ·exact ih y hy
  ·exact ih y hy
theorem xnr {X:QW}(h:xaH X=0){sites:List Int}{m:QM}(hm:Sml m){c:Int}(hok:(xce X c m sites).2=true) :
  (xce X c m sites).1.code.length<=240/\(xce X c m sites).1.temps<=40/\(∀ y∈(xce X c m sites).1.code,(jmp y->0<=y.a/\y.a<=(xce X c m sites).1.code.length)/\(y.op=18->∃ j:Nat,j<m.code.length/\y.c=j/\sites[j]?=some y.a))/\∃ y∈(xce X c m sites).1.code,y.op=18:=by
 have hg:=xhu h hm (sites:=sites) (qzC m.code.length);have hb:=xci h hm (sites:=sites) (qzC m.code.length);have hi:=xhV (xs:=X.cz) (sites:=sites) (m:=m) m.code.length;unfold xce at hok ⊢;dsimp only at hok ⊢;generalize xah X.cz sites m m.code.length=s at *
 split at hok
 ·cases hok
 ·rename_i hp;rw[if_neg hp];dsimp only;rw[xdi];refine⟨by omega,hb.2.2.1,xkb hg rfl hi _ (qzC _),?_⟩
  obtain⟨y,hy,ho⟩:=hg.one (by omega)
  have:y.op∈(xdC s.begins m.code s.code m.code.length).map (·.op):=by rw[xl3];exact List.mem_map_of_mem hy
  obtain⟨z,hz,e⟩:=List.mem_map.1 this
  exact⟨z,hz,by rw[← ho];exact e⟩
def xd8 (n:Int)(y:QI):QI:=if y.op=15\/y.op=16 then { y with a:=y.a+n } else y
theorem xcY {n:Int}{y:QI}(h:¬ jmp y):xd8 n y=y:=by unfold xd8;exact if_neg h
theorem xj1 (self args temps first behind n:Int)(x:QI):xd8 n (xay self args temps first behind x)=xay self args temps (first+n) (behind+n) x:=by
 unfold xay
 split
 ·exact xcY (by simp[jmp])
 ·split
  ·exact xcY (by simp[jmp])
  ·split
   ·rename_i h;exact xcY (by simp only[jmp];omega)
   ·split
    ·exact xcY (by simp[jmp])
    ·split
     ·exact xcY (by simp[jmp])
     ·split
      ·rename_i h;unfold xd8;rw[if_pos (by simpa using h)]
       simp only[ins,QI.mk.injEq,true_and,and_true]
       omega
      ·split
       ·rfl
       ·rename_i h _;exact xcY h
theorem xlw (leaf:QM)(g:QI)(hg:g.op=18)(self n:Int):(xfy leaf g self).map (xd8 n)=xfy leaf g self:=by
 refine (List.map_congr_left (g:=id) fun y hy=>?_).trans (List.map_id _)
 refine xcY fun hj=>?_
 unfold xfy at hy;simp only[List.mem_append,List.mem_cons,List.not_mem_nil,or_false] at hy;unfold jmp at hj
 rcases hy with ((((h | h) | h) | h) | h)
 ·subst h;omega
 ·subst h;simp at hj
 ·have:=xhy _ _ y h;omega
 ·subst h;simp at hj
 ·have:=xjY _ _ y h;omega
theorem xgH (leaf:QM)(g:QI)(hg:g.op=18)(self n:Int):(xbu leaf g self 0).map (xd8 n)=xbu leaf g self n:=by
 unfold xbu;rw[List.map_append,xlw leaf g hg,List.map_map]
 congr 1
 apply List.map_congr_left
 intro x _;simp only[Function.comp];rw[xj1];unfold xbw
 congr 1<;>omega
theorem xjV (o:List QI)(y:QI)(rest:List QI)(f:QI->QI):(o++([y]++rest)).modify o.length f=o++([f y]++rest):=by
 induction o with
 | nil=>simp
 | cons a o ih=>exact (List.modify_succ_cons f a _ _).trans (congrArg (a :: ·) ih)
def xcE (B:List Int)(y:QI):QI:=if y.op=15\/y.op=16 then { y with a:=B.getD y.a.toNat 0 } else y
def xgk (xs:List QC)(sites:List Int)(m:QM)(B:List Int):Nat->List QI
 | 0=>[]
 | k+1=>match m.code[k]? with
  | none=>xgk xs sites m B k
  | some x=>xgk xs sites m B k++match xdZ xs sites m.code.length (xah xs sites m k).code.length (xah xs sites m k).temps k x with
   | none=>[xcE B (xbh x k)]
   | some leaf=>(xbu leaf (ins 18 (sites.getD k (-1)) leaf.args k) (xah xs sites m k).temps 0).map (xd8 (xah xs sites m k).code.length)
theorem xnw {X:QW}(h:xaH X=0){sites:List Int}{m:QM}(hm:Sml m){B:List Int}(hl:B.length=m.code.length):∀ {k:Nat},k<=m.code.length->(∀ j,j<k->B[j]?=some ((xah X.cz sites m j).code.length:Int))->∀ rest,xdC B m.code ((xah X.cz sites m k).code++rest) k=xgk X.cz sites m B k++rest
 | 0,_,_,rest=>rfl
 | k+1,hk,hB,rest=>by
  have ih:=xnw h hm hl (sites:=sites) (k:=k) (by omega) (fun j hj=>hB j (by omega))
  have hx:m.code[k]?=some m.code[k]:=List.getElem?_eq_getElem (by omega)
  have hxm:m.code[k]∈m.code:=List.getElem_mem _;have hb:=hB k (by omega)
  have hlen:(xgk X.cz sites m B k).length=(xah X.cz sites m k).code.length:=by
   have:=congrArg List.length (ih []);rw[xdi] at this
   simpa using this.symm
  rw[xbg hx];unfold xdC xgk;rw[hx,hb];generalize m.code[k]=x at *;generalize xah X.cz sites m k=s at *;generalize xgk X.cz sites m B k=o at *;unfold xdA;simp only
  cases hw:xdZ X.cz sites m.code.length s.code.length s.temps k x with
  | none=>
   simp only[List.append_assoc];rw[ih]
   by_cases hj:x.op=15\/x.op=16
   ·have hjr:=hm.jump x hxm hj
    have ht:B[x.a.toNat]?=some (B.getD x.a.toNat 0):=by
     rw[List.getD_eq_getElem?_getD,List.getElem?_eq_getElem (by omega)];rfl
    have e:xbh x (k:Int)=x:=by unfold xbh;rw[if_neg (by omega)]
    have hle:xeh B x=some (B.getD x.a.toNat 0):=by unfold xeh;rw[if_pos ⟨hj,hjr.1⟩,ht]
    rw[hle,e];unfold xcE;rw[if_pos hj];simp only[Int.toNat_natCast];rw[← hlen,xjV]
   ·have hle:xeh B x=none:=by unfold xeh;rw[if_neg (fun h=>hj h.1)]
    rw[hle];unfold xcE;have hso:(xbh x (k:Int)).op=x.op:=by unfold xbh;split<;>rfl
    rw[if_neg (by rw[hso];exact hj)]
  | some leaf=>
   have hst:xa3 X.cz sites k x=some leaf:=by
    unfold xdZ at hw
    split at hw
    ·cases hw
    ·rename_i l hl
     split at hw
     ·cases hw;exact hl
     ·cases hw
   obtain⟨-,-,-,ho14⟩:=xbv h hst;have hle:xeh B x=none:=by unfold xeh;rw[if_neg (by omega)]
   simp only[List.append_assoc];rw[hle,ih,xgH _ _ rfl]
theorem xgm {xs:List QC}{sites:List Int}{m:QM}:∀ {k:Nat},k<=m.code.length->∀ j,j<k->(xah xs sites m k).begins[j]?=some ((xah xs sites m j).code.length:Int)
 | 0,_,j,hj=>by omega
 | k+1,hk,j,hj=>by
  have hl:=xbF (xs:=xs) (sites:=sites) (m:=m) (k:=k) (by omega)
  rw[xbg (List.getElem?_eq_getElem (by omega)),xel]
  by_cases hjk:j<k
  ·rw[List.getElem?_append_left (by omega)];exact xgm (by omega) j hjk
  ·have:j=k:=by omega
   subst this;rw[List.getElem?_append_right (by omega),hl];simp
theorem xov {X:QW}(h:xaH X=0){sites:List Int}{m:QM}(hm:Sml m):xdC (xah X.cz sites m m.code.length).begins m.code (xah X.cz sites m m.code.length).code m.code.length=xgk X.cz sites m (xah X.cz sites m m.code.length).begins m.code.length:=by
 have:=xnw h hm (sites:=sites) (B:=(xah X.cz sites m m.code.length).begins) (xbF (qzC _)) (qzC _) (xgm (qzC _)) []
 simpa using this
section
variable (xs:List QC) (sites:List Int) (m:QM)
def xcZ (k:Nat):Option QM:=match m.code[k]? with
 | none=>none
 | some x=>xdZ xs sites m.code.length (xah xs sites m k).code.length (xah xs sites m k).temps k x
def pcK (k:Nat):List QI:=match m.code[k]? with
 | none=>[]
 | some x=>match xdZ xs sites m.code.length (xah xs sites m k).code.length (xah xs sites m k).temps k x with
  | none=>[xbh x k]
  | some leaf=>xbu leaf (ins 18 (sites.getD k (-1)) leaf.args k) (xah xs sites m k).temps 0
def xqw (B:List Int)(k:Nat)(y:QI):QI:=if (xcZ xs sites m k).isSome=true then xd8 (xah xs sites m k).code.length y else xcE B y
end
section
variable {xs:List QC} {sites:List Int} {m:QM}
theorem xhK {B:List Int}{k:Nat}(hk:k<m.code.length):xgk xs sites m B (k+1)=xgk xs sites m B k++(pcK xs sites m k).map (xqw xs sites m B k):=by
 have hx:m.code[k]?=some m.code[k]:=List.getElem?_eq_getElem hk;rw[xgk,hx];unfold pcK xqw xcZ;rw[hx];obtain⟨o,ho⟩:∃ o,xdZ xs sites m.code.length (xah xs sites m k).code.length (xah xs sites m k).temps k m.code[k]=o:=⟨_,rfl⟩;simp only[ho]
 cases o with
 | none=>simp
 | some leaf=>simp
theorem xfD {k:Nat}{x:QI}(hx:m.code[k]?=some x)(h:xdZ xs sites m.code.length (xah xs sites m k).code.length (xah xs sites m k).temps k x=none):xcZ xs sites m k=none/\pcK xs sites m k=[xbh x k]/\(xah xs sites m (k+1)).temps=(xah xs sites m k).temps/\(xah xs sites m (k+1)).code.length=(xah xs sites m k).code.length+1/\(xah xs sites m (k+1)).begins=(xah xs sites m k).begins++[((xah xs sites m k).code.length:Int)]/\(xah xs sites m (k+1)).pieces=(xah xs sites m k).pieces:=by
 rw[xbg hx];unfold xcZ pcK xdA;simp only[hx,h]
 simp
theorem xhJ {k:Nat}{x:QI}{leaf:QM}(hx:m.code[k]?=some x)(h:xdZ xs sites m.code.length (xah xs sites m k).code.length (xah xs sites m k).temps k x=some leaf):xcZ xs sites m k=some leaf/\pcK xs sites m k=xbu leaf (ins 18 (sites.getD k (-1)) leaf.args k) (xah xs sites m k).temps 0/\(xah xs sites m (k+1)).temps=(xah xs sites m k).temps+1+leaf.args+leaf.temps/\(xah xs sites m (k+1)).code.length=(xah xs sites m k).code.length+(xbu leaf (ins 18 (sites.getD k (-1)) leaf.args k) (xah xs sites m k).temps 0).length/\(xah xs sites m (k+1)).begins=(xah xs sites m k).begins++[((xah xs sites m k).code.length:Int)]/\(xah xs sites m (k+1)).pieces=(xah xs sites m k).pieces+1:=by
 rw[xbg hx];unfold xcZ pcK xdA;simp only[hx,h]
 simp[xbB]
theorem xpq {k:Nat}(hk:k<m.code.length):(xah xs sites m (k+1)).code.length=(xah xs sites m k).code.length+(pcK xs sites m k).length:=by
 have hx:m.code[k]?=some m.code[k]:=List.getElem?_eq_getElem hk
 cases h:xdZ xs sites m.code.length (xah xs sites m k).code.length (xah xs sites m k).temps k m.code[k] with
 | none=>obtain⟨-,e1,-,e2,-⟩:=xfD hx h;rw[e1,e2];rfl
 | some leaf=>obtain⟨-,e1,-,e2,-⟩:=xhJ hx h;rw[e1,e2]
end
end Go.Proofs.Ytdfbgpiikeheiaa
