/- A part. -/
import Derived.Test.YtapbeiccodnniaaGreatM13
namespace Go.Proofs.YtapbeiccodnniaaGreat
open Go.ChangeShapes Go.WideShapes Go.ChangeAt Go.RowKit
set_option linter.unusedSimpArgs false
set_option linter.unusedVariables false
set_option maxHeartbeats 8000000
set_option maxRecDepth 8000
section
variable {σ:Type}
theorem xn6 {cs:List QC}{h:List QO}(hh:HOk cs h)(h4:4<=cs.length)(v:QV):0<=xar h v/\xar h v<cs.length:=by
 unfold xar
 split
 ·omega
 ·split
  ·omega
  ·split
   ·omega
   ·cases e:xdt h v with
    | none=>simp;omega
    | some o=>
     have:=(hh.obj o (List.mem_of_getElem? (xes e))).1;unfold xbP at this;simp only[decide_eq_true_eq] at this
     simp
     omega
def xlE (I:σ->Prop)(cs:List QC)(ent:Ent σ):Prop:=∀ m c n s a,HOk cs m.heap->xas m.heap.length s=0->VsOk m.heap.length a->I m.st->I (ent m c n s a).1.st
def xoZ (I:σ->Prop)(E:Env σ):Prop:=∀ st s (c:Int) nm,I st->0<=c->c<(E.cz.length:Int)->I (E.look st s c nm).1
theorem xnd {I:σ->Prop}{E:Env σ}(hL:xoZ I E)(h4:4<=E.cz.length){ent:Ent σ}(hk:xlE I E.cz ent)(d:Nat){m:Mc σ}{f:Fr}(hm:HOk E.cz m.heap)(hf:FOk E.cz m.heap.length f)(hI:I m.st)(a:Int)(x:QI):I (xan ent E d m f a x).1.st:=by
 unfold xan
 split
 ·exact hI
 ·split
  ·exact hI
  ·split
   ·exact hI
   ·split
    ·exact hI
    ·split
     ·exact hI
     ·split
      ·unfold xbQ;split<;>exact hI
      ·split
       ·unfold xcm;simp only;have hc:=xn6 hm h4 (xaW (f.stack.take (xbu f.stack x.a)) 0);have hl:=hL m.st (f.site a x) _ x.name hI hc.1 hc.2;generalize E.look m.st (f.site a x) (xar m.heap (xaW (f.stack.take (xbu f.stack x.a)) 0)) x.name=l at hl ⊢;have ht:VsOk m.heap.length (f.stack.take (xbu f.stack x.a)):=hf.stack.sub fun v hv=>List.mem_of_mem_take hv
        have h1:=hk { m with st:=l.1 } l.2.1 l.2.2 (xaW (f.stack.take (xbu f.stack x.a)) 0) (f.stack.drop (xbu f.stack x.a)) hm (ht.entry _) (hf.stack.sub fun v hv=>List.mem_of_mem_drop hv) hl
        split<;>exact h1
       ·split
        ·rw[(xd9 m f a x.a).1];exact hI
        ·split
         ·unfold xbr
          split
          ·exact hI
          ·split
           ·rw[(xd9 m f.pop a x.a).1];exact hI
           ·exact hI
         ·unfold xcl
          split
          ·exact hI
          ·split
           ·exact hI
           ·split
            ·exact hI
            ·split
             ·exact hI
             ·split
              ·show I (xay E d m).1.st
               rw[(xeF E d m).1];exact hI
              ·exact hI
theorem xmL {I:σ->Prop}{E:Env σ}(hE:EOk E){ent:Ent σ}(he:xjT E.cz ent)(hL:xoZ I E)(h4:4<=E.cz.length)(hk:xlE I E.cz ent)(d:Nat):∀ (g:Nat) {m:Mc σ} {f:Fr},HOk E.cz m.heap->FOk E.cz m.heap.length f->I m.st->I (xcL ent E d g m f).1.st
 | 0,m,f,hm,hf,hI=>hI
 | g+1,m,f,hm,hf,hI=>by
  unfold xcL
  cases hq:(if f.pc<0 then none else f.code[f.pc.toNat]?) with
  | none=>exact hI
  | some x=>
   have hx:x∈f.code:=by
    split at hq
    ·cases hq
    ·exact List.mem_of_getElem? hq
   simp only[]
   by_cases h17:x.op=17
   ·rw[if_pos h17];exact hI
   ·rw[if_neg h17];have hf1:FOk E.cz m.heap.length { f with pc:=f.pc+1 }:=⟨hf.self,hf.args,hf.temps,hf.stack,hf.code,hf.plain⟩
    obtain⟨h1,h2⟩:=xgl hE he d hm hf1 f.pc (hf.code x hx).1 (hf.code x hx).2;have h3:=xnd hL h4 hk d hm hf1 hI f.pc x;generalize xan ent E d m { f with pc:=f.pc+1 } f.pc x=r at h1 h2 h3 ⊢
    by_cases h0:r.2.2≠0
    ·rw[if_pos h0];exact h3
    ·rw[if_neg h0]
     exact xmL hE he hL h4 hk d g h1.heap (h2 (by simpa using h0)) h3
theorem xiB {I:σ->Prop}{E:Env σ}(hE:EOk E)(d:Nat){body:Mc σ->Fr->Mc σ × QV × Int}(hb:∀ {m f},HOk E.cz m.heap->FOk E.cz m.heap.length f->I m.st->I (body m f).1.st):xlE I E.cz (xbj E d body):=by
 intro m c n s a hm hs ha hI;unfold xbj
 cases hmt:xaO E.cz c n with
 | none=>exact hI
 | some mt=>
  simp only[]
  split
  ·exact hI
  ·split
   ·split<;>exact hI
   ·split
    ·exact hI
    ·obtain⟨h1,h2⟩:=xgh (cs:=E.cz) E d hm
     have hf:FOk E.cz (xay E d m).1.heap.length (xaG E c n mt s a):=by
      rw[h2];have hmc:=hE.meths c n mt hmt;unfold xaG
      cases hq:E.quick c n with
      | none=>exact⟨hs,ha,xc8 _ _,fun v hv=>by simp at hv,hmc,hmc⟩
      | some q=>exact⟨hs,ha,xc8 _ _,fun v hv=>by simp at hv,hE.fast c n q hq,hmc⟩
     exact hb h1.heap hf (by rw[(xeF E d m).1];exact hI)
theorem xmN {I:σ->Prop}{E:Env σ}(hE:EOk E)(hL:xoZ I E)(h4:4<=E.cz.length):∀ d,xlE I E.cz (xa1 E d)
 | 0=>xiB hE 0 fun _ _ h=>h
 | d+1=>xiB hE (d+1) fun hm hf h=>xmL hE (xhl hE d) hL h4 (xmN hE hL h4 d) d _ hm hf h
end
def xfW (cs:List QC):List QS:=(List.range 12).flatMap fun (c:Nat)=>(List.range 8).flatMap fun (n:Nat)=>(List.range 60).map fun (k:Nat)=>⟨(c:Int),((xaO cs c n).map QM.name).getD ⟨#[]⟩,(k:Int)⟩
theorem xgf {α β:Type}{f:α->List β}{n:Nat}(h:∀ x,(f x).length=n):∀ l:List α,(l.flatMap f).length=l.length*n
 | []=>by simp
 | x :: r=>by rw[List.flatMap_cons,List.length_append,h,xgf h r,List.length_cons,Nat.succ_mul,Nat.add_comm]
theorem xgP (cs:List QC):(xfW cs).length=5760:=by
 unfold xfW;rw[xgf (n:=480) (fun x=>by rw[xgf (n:=60) (fun y=>by simp)];simp)]
 simp
theorem xhI {X:QW}(h:xaJ X=0){j:Nat}{x:QC}(hx:X.cz[j]?=some x):x.mz.length<=8:=by
 obtain⟨hs,-,hk,-⟩:=xbE h;have h1:=hk j x (xae hx) hx;unfold rkE at h1
 split at h1
 ·cases h1
 ·split at h1
  ·cases h1
  ·omega
theorem xmt {X:QW}(hX:xaJ X=0){s:QS}{nm:ByteArray}(h:xcW X.cz s nm):s∈xfW X.cz:=by
 obtain⟨n,mt,k,x,h1,h2,h3,h4,-,-⟩:=h;have hk:=xae h4;have h60:=xhe hX h1;have h12:=(xbE hX).1.many;obtain⟨sc,sn,sa⟩:=s;simp only at h1 h2 h3;subst h2 h3;have e:=h1;obtain⟨kc,kn,c,rfl,rfl,hx,hxm⟩:=xej h1;have hjl:=xae hx;have hil:=xae hxm;have h8:=xhI hX hx;unfold xfW;refine List.mem_flatMap.2 ⟨kc,List.mem_range.2 (by omega),List.mem_flatMap.2 ⟨kn,List.mem_range.2 (by omega),List.mem_map.2 ⟨k,List.mem_range.2 (by omega),?_⟩⟩⟩
 rw[e]
 rfl
theorem xdN {α:Type}[DecidableEq α]:∀ (l S:List α),l.Nodup->(∀ x∈l,x∈S)->l.length<=S.length
 | [],S,_,_=>Nat.zero_le _
 | x :: r,S,hn,hs=>by
  rw[List.nodup_cons] at hn;have h1:=xdN r (S.erase x) hn.2 fun y hy=>(List.mem_erase_of_ne (by intro e;subst e;exact hn.1 hy)).2 (hs y (List.mem_cons_of_mem _ hy))
  have h2:=List.length_erase_of_mem (hs x List.mem_cons_self);have h3:=List.length_pos_of_mem (hs x List.mem_cons_self);rw[List.length_cons]
  omega
theorem xov {a b:QS}(h:eqS a b=true):a=b:=(xcf a b).1 h
theorem xgC (s:QS)(ep:Int)(y:QL):∀ l:List QE,(xcX l s ep y).map QE.site=l.map QE.site\/(s ∉ l.map QE.site/\(xcX l s ep y).map QE.site=l.map QE.site++[s])
 | []=>Or.inr ⟨by simp,by simp[xcX,(xaZ _ _).1]⟩
 | x :: r=>by
  unfold xcX
  by_cases h:eqS x.site s=true
  ·rw[if_pos h];have e:=xov h;refine Or.inl ?_;rw[List.map_cons,List.map_cons,(xaZ _ _).1,(xcP e).1,e]
  ·rw[if_neg h]
   rcases xgC s ep y r with k | ⟨k1,k2⟩
   ·exact Or.inl (by rw[List.map_cons,List.map_cons,k])
   ·refine Or.inr ⟨?_,by rw[List.map_cons,List.map_cons,k2];rfl⟩
    rw[List.map_cons,List.mem_cons];rintro (e | e)
    ·exact h (by rw[← e];exact xeG s)
    ·exact k1 e
theorem xgM (s:QS)(c:Int):∀ l:List QT,(xc1 l s c).map QT.site=l.map QT.site\/(s ∉ l.map QT.site/\(xc1 l s c).map QT.site=l.map QT.site++[s])
 | []=>Or.inr ⟨by simp,by simp[xc1]⟩
 | x :: r=>by
  unfold xc1
  by_cases h:eqS x.site s=true
  ·rw[if_pos h];exact Or.inl rfl
  ·rw[if_neg h]
   rcases xgM s c r with k | ⟨k1,k2⟩
   ·exact Or.inl (by rw[List.map_cons,List.map_cons,k])
   ·refine Or.inr ⟨?_,by rw[List.map_cons,List.map_cons,k2];rfl⟩
    rw[List.map_cons,List.mem_cons];rintro (e | e)
    ·exact h (by rw[← e];exact xeG s)
    ·exact k1 e
theorem xlo (c:Int):∀ l:List QL,(xbo l c).map QL.cls=l.map QL.cls\/(c ∉ l.map QL.cls/\(xbo l c).map QL.cls=l.map QL.cls++[c])
 | []=>Or.inr ⟨by simp,by simp[xbo]⟩
 | x :: r=>by
  unfold xbo
  by_cases h:(x.cls == c)=true
  ·rw[if_pos h];exact Or.inl rfl
  ·rw[if_neg h]
   rcases xlo c r with k | ⟨k1,k2⟩
   ·exact Or.inl (by rw[List.map_cons,List.map_cons,k])
   ·refine Or.inr ⟨?_,by rw[List.map_cons,List.map_cons,k2];rfl⟩
    rw[List.map_cons,List.mem_cons];rintro (e | e)
    ·exact h (by simp[← e])
    ·exact k1 e
def Own1 {α:Type}(S:α->Prop)(l:List α):Prop:=l.Nodup/\∀ x∈l,S x
theorem Own1.more {α:Type}{S:α->Prop}{l l':List α}{s:α}(h:Own1 S l)(hs:S s)(e:l'=l\/(s ∉ l/\l'=l++[s])):Own1 S l':=by
 rcases e with rfl | ⟨h1,rfl⟩
 ·exact h
 ·refine⟨?_,fun x hx=>?_⟩
  ·rw[List.nodup_append];refine⟨h.1,by simp,fun a ha b hb e=>?_⟩
   rw[List.mem_singleton] at hb;subst hb e
   exact h1 ha
  ·rw[List.mem_append,List.mem_singleton] at hx
   rcases hx with hx | rfl
   ·exact h.2 x hx
   ·exact hs
theorem xht (s:QS)(c:Int):∀ (l:List QT) (z:QT),z∈xc1 l s c->z∈l\/z.lz=[⟨c,1⟩]\/∃ x∈l,z.lz=xbo x.lz c
 | [],z,h=>by
  simp[xc1] at h
  subst h
  exact Or.inr (Or.inl rfl)
 | x :: r,z,h=>by
  unfold xc1 at h
  split at h
  ·rw[List.mem_cons] at h
   rcases h with rfl | h
   ·exact Or.inr (Or.inr ⟨x,List.mem_cons_self,rfl⟩)
   ·exact Or.inl (List.mem_cons_of_mem _ h)
  ·rw[List.mem_cons] at h
   rcases h with rfl | h
   ·exact Or.inl List.mem_cons_self
   ·rcases xht s c r z h with h | h | ⟨y,hy,h⟩
    ·exact Or.inl (List.mem_cons_of_mem _ h)
    ·exact Or.inr (Or.inl h)
    ·exact Or.inr (Or.inr ⟨y,List.mem_cons_of_mem _ hy,h⟩)
structure CIn (X:QW)(l:List QE)(q:List QT):Prop where
 c:Own1 (·∈xfW X.cz) (l.map QE.site)
 cl:∀ x∈l,x.lz.length<=3
 t:Own1 (·∈xfW X.cz) (q.map QT.site)
 tl:∀ x∈q,Own1 (fun c:Int=>0<=c/\c<12) (x.lz.map QL.cls)
theorem CIn.look {X:QW}(hX:xaJ X=0){st:CSt}(h:CIn X st.cells st.ts){s:QS}{nm:ByteArray}(hs:xcW X.cz s nm){c:Int}(h0:0<=c)(h1:c<X.cz.length):CIn X (xcb X st s c nm).1.cells (xcb X st s c nm).1.ts:=by
 have h12:=(xbE hX).1.many;have hm:=xmt hX hs
 have e:(xa2 st.cells X s c nm).1=st.cells\/∃ y,(xa2 st.cells X s c nm).1=xcX st.cells s X.ez y:=by
  unfold xa2
  split
  ·exact Or.inl rfl
  ·split
   ·exact Or.inl rfl
   ·exact Or.inr ⟨_,rfl⟩
 refine⟨?_,?_,h.t.more hm (xgM s c st.ts),fun z hz=>?_⟩
 ·show Own1 _ ((xa2 st.cells X s c nm).1.map QE.site)
  rcases e with e | ⟨y,e⟩
  ·rw[e];exact h.c
  ·rw[e];exact h.c.more hm (xgC s X.ez y st.cells)
 ·intro z hz
  rcases (xeW st.cells X s c nm).2 z hz with k | ⟨x,hx,k⟩
  ·exact k
  ·have:=h.cl x hx;omega
 ·have hc:(fun c:Int=>0<=c/\c<12) c:=⟨h0,by omega⟩
  rcases xht s c st.ts z hz with k | k | ⟨x,hx,k⟩
  ·exact h.tl z k
  ·rw[k];exact⟨by simp,fun y hy=>by simp at hy;subst hy;exact hc⟩
  ·rw[k];exact (h.tl x hx).more hc (xlo c x.lz)
theorem CIn.few {X:QW}{l:List QE}{t:List QT}(h:CIn X l t):CFew ⟨l,t,0,0⟩ 1000 where
 c:=by
  classical
  have:=xdN _ _ h.c.1 h.c.2;rw[xgP,List.length_map] at this
  show l.length+_+_<=_
  omega
 cl:=fun x hx=>by have:=h.cl x hx;omega
 t:=by
  classical
  have:=xdN _ _ h.t.1 h.t.2;rw[xgP,List.length_map] at this
  show t.length+_+_<=_
  omega
 tl:=fun x hx=>by
  have h1:=h.tl x hx
  have:=xdN (x.lz.map QL.cls) ((List.range 12).map fun (n:Nat)=>(n:Int)) h1.1 fun c hc=>by
   have:=h1.2 c hc
   exact List.mem_map.2 ⟨c.toNat,List.mem_range.2 (by omega),by omega⟩
  rw[List.length_map,List.length_map,List.length_range] at this
  omega
 h:=by simp
 k:=by simp
theorem CIn.fold {X:QW}(hX:xaJ X=0):∀ (q:List Ask) (st:CSt),CIn X st.cells st.ts->(∀ a∈q,xcW X.cz a.1 a.2.2/\0<=a.2.1/\a.2.1<X.cz.length)->CIn X (xcB X st q).cells (xcB X st q).ts
 | [],st,h,_=>h
 | a :: q,st,h,hq=>by
  have ha:=hq a List.mem_cons_self
  exact CIn.fold hX q _ (h.look hX ha.1 ha.2.1 ha.2.2) fun b hb=>hq b (List.mem_cons_of_mem _ hb)
theorem xm2 (X:QW)(fuel:Int):ER (fun (_:Unit) (q:List Ask)=>∀ a∈q,xcW X.cz a.1 a.2.2) (xcW X.cz) (xcJ X fuel) (xcQ X fuel) where
 cz:=rfl
 fuel:=rfl
 quick:=rfl
 look:=fun _ q s c nm h hs=>⟨rfl,fun a ha=>by
  rw[show ((xcQ X fuel).look q s c nm).1=q++[(s,c,nm)] from rfl,List.mem_append,List.mem_singleton] at ha
  rcases ha with ha | rfl
  ·exact h a ha
  ·exact hs⟩
 plain:=fun c n m h k x hk h14=>xfr h hk h14
 fast:=fun c n m q h hq=>by cases hq
theorem xoq {X:QW}(hX:xaJ X=0)(fuel:Int):xoZ (fun q:List Ask=>∀ a∈q,0<=a.2.1/\a.2.1<X.cz.length) (xcQ X fuel):=fun q s c nm h h0 h1 a ha=>by
 rw[show ((xcQ X fuel).look q s c nm).1=q++[(s,c,nm)] from rfl,List.mem_append,List.mem_singleton] at ha
 rcases ha with ha | rfl
 ·exact h a ha
 ·exact⟨h0,h1⟩
theorem xit {X:QW}(hX:xaJ X=0){l:List QE}{t:List QT}(hT:TrueS X l)(hI:CIn X l t)(v:QV)(name:ByteArray)(args:List QV)(fuel:Int) :
  (xdh (xaL X fuel) X ⟨l,t,0,0⟩ v name args fuel).1=xcI X v name args fuel/\
  TrueS X (xdh (xaL X fuel) X ⟨l,t,0,0⟩ v name args fuel).2.cells/\CIn X (xdh (xaL X fuel) X ⟨l,t,0,0⟩ v name args fuel).2.cells (xdh (xaL X fuel) X ⟨l,t,0,0⟩ v name args fuel).2.ts:=by
 rw[← xjv]
 by_cases hw:xap X v name args fuel≠0
 ·unfold xdh;rw[if_pos hw,if_pos hw]
  exact⟨rfl,hT,hI⟩
 ·have hw':=xcH (Decidable.of_not_not hw);have h4:=(xbE hX).1.few;have hr:=xf4 hX fuel 20 (xaw X.cz (xar X.heap v) name).1 (xaw X.cz (xar X.heap v) name).2 v args ⟨l,t,0,0⟩ hT;obtain⟨⟨-,-,-,a1⟩,-⟩:=xfi (xm2 X fuel) 20 ⟨X.heap,0,0,()⟩ ⟨X.heap,0,0,[]⟩ (xaw X.cz (xar X.heap v) name).1 (xaw X.cz (xar X.heap v) name).2 v args ⟨rfl,rfl,rfl,fun a ha=>by cases ha⟩
  have a2:=xmN (E:=xcQ X fuel) (xeM hX fuel _) (xoq hX fuel) h4 20 ⟨X.heap,0,0,[]⟩ (xaw X.cz (xar X.heap v) name).1 (xaw X.cz (xar X.heap v) name).2 v args (xdz hX) hw'.2.1 hw'.2.2 (fun a ha=>by cases ha)
  generalize (xa1 (xcQ X fuel) 20 ⟨X.heap,0,0,[]⟩ (xaw X.cz (xar X.heap v) name).1 (xaw X.cz (xar X.heap v) name).2 v args).1.st=q at hr a1 a2;have hqa:∀ a∈q,xcW X.cz a.1 a.2.2/\0<=a.2.1/\a.2.1<X.cz.length:=fun a ha=>⟨a1 a ha,a2 a ha⟩
  have e1:xop X (xdf (xaL X fuel) X ⟨l,t,0,0⟩ v name args)=xop X (xdf (xcJ X fuel) X () v name args):=by
   unfold xop xdf;rw[hr.heap,hr.sz_,hr.res]
  have e2:(xdf (xaL X fuel) X ⟨l,t,0,0⟩ v name args).1.st=xcB X ⟨l,t,0,0⟩ q:=hr.st;have e3:TrueS X (xdf (xaL X fuel) X ⟨l,t,0,0⟩ v name args).1.st.cells:=hr.tru;have e4:=CIn.fold hX q ⟨l,t,0,0⟩ hI hqa;unfold xdh;rw[if_neg hw,if_neg hw];simp only;rw[← e2] at e4
  exact⟨e1,e3,e4⟩
def xl8 (P:Nat->Prop)(w:World)(X:QW)(name:ByteArray)(super slots:Int)(hv:Value)(e:Ending)(w':World):Prop:=
 (xcx X.cz name super slots≠0/\e=.returned (.tuple #[WV (.slice none 0 0) (.slice none 0 0) 0,.int .i64 0,.int .i64 (xcx X.cz name super slots)])\/
  xcx X.cz name super slots=0/\∃ cv',e=.returned (.tuple #[WV cv' hv X.ez,.int .i64 X.cz.length,.int .i64 0])/\xai (fun b=>P b\/w.heap.size<=b) w' cv' (xnQ X name super slots).cz)/\Below w.heap.size w w'
theorem xkz {P:Nat->Prop}(X:QW)(name:ByteArray)(super slots:Int)(cv hv:Value)(w:World)(hn:name.size<=140737488351232)(hh:xai P w cv X.cz)(hH:xaC P w hv X.heap)(ho:xbL X.cz):Calls Tryz.prog 49 #[WV cv hv X.ez,.string name,.int .i64 super,.int .i64 slots] w fun e w'=>xl8 P w X name super slots hv e w':=by
 obtain⟨ad,cap,rfl,hl,hcap,hby,hrow⟩:=id hh;obtain⟨ah,ch,rfl,-,-,-,-⟩:=id hH;unfold maxLen at hcap;go_enter Tryz.func49,Tryz.ntmps49;go_wp2_with fail;refine (xeb name _ hn).mono ?_;rintro e w1 ⟨rfl,hb⟩;have hB:=xah (xca _ _ _) hb;have a0:w1.cell? ⟨w.heap.size,0,none⟩=some (Value.slice ad X.cz.length cap):=qzA hb (qzA (xaj _ _) (by rw[xaa _ _ _ _ rfl];rfl))
 have a1:w1.cell? ⟨w.heap.size,1,none⟩=some (Value.slice ah X.heap.length ch):=qzA hb (qzA (xaj _ _) (by rw[xaa _ _ _ _ rfl];rfl))
 have a2:w1.cell? ⟨w.heap.size,2,none⟩=some (Value.int .i64 X.ez):=qzA hb (qzA (xaj _ _) (by rw[xaa _ _ _ _ rfl];rfl))
 have r:w1.heap[w.heap.size+1]?=some (.cells #[Value.slice none 0 0,Value.slice none 0 0,Value.int .i64 0] 25 (0,0)):=by rw[hb.block _ (by simp)];exact xba _ _ _ (by simp)
 have RC:Hid (∀ W:World,Below w1.heap.size w1 W->(∀ o,W.cell? ⟨w.heap.size+1,o,none⟩=(#[Value.slice none 0 0,Value.slice none 0 0,Value.int .i64 0]:Array Value)[o]?)/\(∀ o,W.frozen? ⟨w.heap.size+1,o,none⟩=false)):=fun W hW=>by
  have hr:W.heap[w.heap.size+1]?=some (.cells #[Value.slice none 0 0,Value.slice none 0 0,Value.int .i64 0] 25 (0,0)):=by rw[hW.block _ (xaf r)];exact r
  exact⟨fun o=>by rw[qzB hr],fun o=>by unfold World.frozen?;simp[hr]⟩
 have RB:Hid (∀ W:World,Below w1.heap.size w1 W->(∀ o,W.cell? ⟨w.heap.size,o,none⟩=(#[Value.slice ad X.cz.length cap,Value.slice ah X.heap.length ch,Value.int .i64 X.ez]:Array Value)[o]?)/\(∀ o,W.frozen? ⟨w.heap.size,o,none⟩=false)):=fun W hW=>by
  have r1:w1.heap[w.heap.size]?=some (.cells #[Value.slice ad X.cz.length cap,Value.slice ah X.heap.length ch,Value.int .i64 X.ez] 25 (0,0)):=by rw[hb.block _ (by simp;omega),(xaj _ _).block _ (by simp)];exact xba _ _ _ rfl
  have hr:W.heap[w.heap.size]?=some (.cells #[Value.slice ad X.cz.length cap,Value.slice ah X.heap.length ch,Value.int .i64 X.ez] 25 (0,0)):=by rw[hW.block _ (xaf r1)];exact r1
  exact⟨fun o=>by rw[qzB hr],fun o=>by unfold World.frozen?;simp[hr]⟩
 cases hnb:xbf name
 ·have HE:Hid (xcx X.cz name super slots=7):=by show _=_;unfold xcx;rw[if_pos (Or.inl hnb)]
  obtain⟨q0,qf⟩:=RC.out _ (Below.refl _ _);go_wp2;refine bodyPost_ret (v:=.tuple #[WV (.slice none 0 0) (.slice none 0 0) 0,.int .i64 0,.int .i64 7]) ?_ rfl ⟨Or.inl ⟨by rw[HE.out];decide,by rw[HE.out]⟩,?_⟩
  ·simp[results,Tryz.results49,go_sem,q0,qf]
  ·exact ((hB.setCell (by simp) _).setCell (by simp) _).setCell (by simp) _
 ·go_wp2
  go_loopg [21] X.cz.length (fun g i wr=>∃ j:Nat,j+g=X.cz.length/\i=.int .i64 j/\Below w1.heap.size w1 wr/\(∀ i x,i<j->X.cz[i]?=some x->eqN x.name name=false))
  case atStart=>exact⟨0,by omega,rfl,Below.refl _ _,fun i x h=>by omega⟩
  case round=>
   obtain⟨j,hg,rfl,hbr,hD⟩:=hrel;have HD:Hid (∀ i x,i<j->X.cz[i]?=some x->eqN x.name name=false):=hD;clear hD;have hBr:=xah hB hbr
   by_cases hj:j<X.cz.length
   ·obtain⟨x,hx⟩:∃ x,X.cz[j]?=some x:=⟨_,List.getElem?_eq_getElem hj⟩;obtain⟨b,o,rfl,-,v0,v1,v2,-,mv,v3,hM⟩:=hrow j x hx;obtain⟨ad2,cap2,rfl,-⟩:=id hM;have HX:Hid (X.cz[j]?=some x):=hx;have hj1:(j:Int)<(X.cz.length:Int):=by omega
    have hj0:(0:Int)<=(j:Int):=by omega
    clear hx;simp only[Nat.add_zero] at v0;replace v0:=qzA hBr v0;replace v1:=qzA hBr v1;replace v2:=qzA hBr v2;replace v3:=qzA hBr v3;have hB2:=xaj wr (Obj.cells #[Value.string x.name,Value.int .i64 x.super,Value.int .i64 x.slots,Value.slice ad2 x.mz.length cap2] 54)
    cases he:eqN x.name name
    ·have he':(x.name.toList == name.toList)=false:=he;go_wp2
     go_roundg (gk-1)
     case measure=>omega
     case rel=>
      refine⟨j+1,by omega,by go_num,xah hbr hB2,fun i y h hy=>?_⟩
      by_cases hij:i=j
      ·subst hij;rw[HX.out] at hy
       cases hy
       exact he
      ·exact HD.out i y (by omega) hy
    ·have he':(x.name.toList == name.toList)=true:=he
     have HE:Hid (xcx X.cz name super slots=7):=by
      show _=_
      unfold xcx;rw[if_pos (Or.inr _)];unfold xhu;rw[xb4 HX.out he HD.out]
      simp
     obtain⟨q0,qf⟩:=RC.out _ (xah hbr hB2);go_wp2;refine bodyPost_ret (v:=.tuple #[WV (.slice none 0 0) (.slice none 0 0) 0,.int .i64 0,.int .i64 7]) ?_ rfl ⟨Or.inl ⟨by rw[HE.out];decide,by rw[HE.out]⟩,?_⟩
     ·simp[results,Tryz.results49,go_sem,q0,qf]
     ·exact (((xah hBr hB2).setCell (by simp) _).setCell (by simp) _).setCell (by simp) _
   ·obtain rfl:j=X.cz.length:=by omega
    have htk:xhu X.cz name=false:=by
     unfold xhu;rw[xbM fun i y hy=>HD.out i y (xae hy) hy]
     rfl
    have t1:¬ (xbf name=false\/xhu X.cz name=true):=by rw[hnb,htk];simp
    obtain⟨q0,qf⟩:=RC.out _ hbr;have a0':=qzA hbr a0;have a1':=qzA hbr a1;have a2':=qzA hbr a2
    cases hhas:xcN X.cz.length super
    ·have HE:Hid (xcx X.cz name super slots=6):=by show _=_;unfold xcx;rw[if_neg t1,if_pos hhas]
     have HEND:Hid (∀ W:World,Below w.heap.size w W->xl8 P w X name super slots (.slice ah X.heap.length ch) (.returned (.tuple #[WV (.slice none 0 0) (.slice none 0 0) 0,.int .i64 0,.int .i64 6])) W):=fun W h=>⟨Or.inl ⟨by rw[HE.out];decide,by rw[HE.out]⟩,h⟩
     by_cases h0:super<0
     ·go_wp2;refine bodyPost_ret (v:=.tuple #[WV (.slice none 0 0) (.slice none 0 0) 0,.int .i64 0,.int .i64 6]) ?_ rfl (HEND.out _ (xa9 hBr (by omega) _ _ _))
      simp[results,Tryz.results49,go_sem,q0,qf]
     ·have h0':decide (super<0)=false:=by simpa using h0
      have h1:(X.cz.length:Int)<=super:=by simp[xcN] at hhas;omega
      go_wp2;refine bodyPost_ret (v:=.tuple #[WV (.slice none 0 0) (.slice none 0 0) 0,.int .i64 0,.int .i64 6]) ?_ rfl (HEND.out _ (xa9 hBr (by omega) _ _ _))
      simp[results,Tryz.results49,go_sem,q0,qf]
    ·have HE:Hid (xcx X.cz name super slots=if slots<0\/6-xaP X.cz super<slots\/xfS super=true then 3 else if 12<=X.cz.length then 5 else 0):=by show _=_;unfold xcx;rw[if_neg t1,if_neg (by rw[hhas];simp)]
     have h0:(0:Int)<=super:=by simp[xcN] at hhas;omega
     have h1:super<(X.cz.length:Int):=by simp[xcN] at hhas;omega
     have hsl:0<=xaP X.cz super:=(xcv ho (X.cz.length+1) super 0 (by omega)).1
     have hsl6:xaP X.cz super<=0+6*((X.cz.length+1:Nat):Int):=(xcv ho (X.cz.length+1) super 0 (by omega)).2
     have HEND:Hid (xcx X.cz name super slots=3->∀ W:World,Below w.heap.size w W->xl8 P w X name super slots (.slice ah X.heap.length ch) (.returned (.tuple #[WV (.slice none 0 0) (.slice none 0 0) 0,.int .i64 0,.int .i64 3])) W):=fun he W h=>⟨Or.inl ⟨by rw[he];decide,by rw[he]⟩,h⟩
     by_cases s0:slots<0
     ·go_wp2;refine bodyPost_ret (v:=.tuple #[WV (.slice none 0 0) (.slice none 0 0) 0,.int .i64 0,.int .i64 3]) ?_ rfl (HEND.out (by rw[HE.out,if_pos (Or.inl s0)]) _ (xa9 hBr (by omega) _ _ _))
      simp[results,Tryz.results49,go_sem,q0,qf]
     ·have s0':(0:Int)<=slots:=by omega
      by_cases s6:6<slots
      ·go_wp2;refine bodyPost_ret (v:=.tuple #[WV (.slice none 0 0) (.slice none 0 0) 0,.int .i64 0,.int .i64 3]) ?_ rfl (HEND.out (by rw[HE.out,if_pos (Or.inr (Or.inl (by omega)))]) _ (xa9 hBr (by omega) _ _ _))
       simp[results,Tryz.results49,go_sem,q0,qf]
      ·have s6':slots<=6:=by omega
       go_wp2_with fail;refine (xcp X super _ _ _ (hh.later xaz hBr) (hH.later xaD hBr) ho).mono ?_;rintro e w4 ⟨rfl,hb4⟩;have hb4':=xah hbr hb4;replace a0':=qzA hb4 a0';replace a1':=qzA hb4 a1';replace a2':=qzA hb4 a2';replace hBr:=xah hBr hb4;clear q0 qf;obtain⟨q0,qf⟩:=RC.out _ hb4';clear hb4 hbr;have hwr:IntKind.i64.wrap (slots+xaP X.cz super)=slots+xaP X.cz super:=by rw[IntKind.wrap_i64];omega
       by_cases s1:6<slots+xaP X.cz super
       ·go_wp2;refine bodyPost_ret (v:=.tuple #[WV (.slice none 0 0) (.slice none 0 0) 0,.int .i64 0,.int .i64 3]) ?_ rfl (HEND.out (by rw[HE.out,if_pos (Or.inr (Or.inl (by omega)))]) _ (xa9 hBr (by omega) _ _ _))
        simp[results,Tryz.results49,go_sem,q0,qf]
       ·have s1':slots+xaP X.cz super<=6:=by omega
        have s1d:decide (6<slots+xaP X.cz super)=false:=by simpa using s1
        cases hpl:xfS super
        ·have hpl':¬ (0<super/\super<4):=by simp[xfS] at hpl;omega
         have hE2:Hid (xcx X.cz name super slots=if 12<=X.cz.length then 5 else 0):=by
          show _=_
          rw[HE.out,if_neg];rintro (h | h | h)
          ·omega
          ·omega
          ·rw[hpl] at h;cases h
         have pd:decide (0<super)=false\/decide (0<super)=true/\decide (super<4)=false:=by
          by_cases h:0<super
          ·right;exact⟨by simpa using h,by simp;omega⟩
          ·left;simpa using h
         by_cases s2:12<=X.cz.length
         ·have s2':(12:Int)<=(X.cz.length:Int):=by omega
          have HEND5:Hid (∀ W:World,Below w.heap.size w W->xl8 P w X name super slots (.slice ah X.heap.length ch) (.returned (.tuple #[WV (.slice none 0 0) (.slice none 0 0) 0,.int .i64 0,.int .i64 5])) W):=fun W h=>⟨Or.inl ⟨by rw[hE2.out,if_pos s2];decide,by rw[hE2.out,if_pos s2]⟩,h⟩
          rcases pd with pd | ⟨pd,pd'⟩
          all_goals
           go_wp2;refine bodyPost_ret (v:=.tuple #[WV (.slice none 0 0) (.slice none 0 0) 0,.int .i64 0,.int .i64 5]) ?_ rfl (HEND5.out _ (xa9 hBr (by omega) _ _ _))
           simp[results,Tryz.results49,go_sem,q0,qf]
         ·have s2':(X.cz.length:Int)<12:=by omega
          have HE0:Hid (xcx X.cz name super slots=0):=by show _=_;rw[hE2.out,if_neg s2]
          obtain⟨cs,hcs,hsrc⟩:=RowAt.cells hrow xaz;have HSRC:Hid (∀ j u,cs[j]?=some u->∃ a,ad=some a/\w.cell? (a.add j)=some u):=hsrc;obtain⟨i0,hi,hz0,hz1,hz2⟩:=xa3 xg5;have a0x:=fun x=>qzA (xaj w4 x) a0'
          have hz4:w.heap.size+1<w4.heap.size:=qzE (xaf r) hb4'.size;clear hsrc
          rcases pd with pd | ⟨pd,pd'⟩
          all_goals
           go_wp2_with (first
            | (at_builtin;refine xa4 rfl (.tmp 72) (.tmp 74) 22 54 zC 4 56 rfl Tryz.underlying22 xg5 rfl (by decide) (by decide) w4.heap.size rfl (xba _ _ _ rfl) ad X.cz.length cap rfl cs hcs.1 (fun j u hu=>by obtain⟨a,e,h⟩:=HSRC.out j u hu;exact⟨a,e,qzA (xah hBr (xaj _ _)) h⟩) hby ?_;intro gA capA wA hownA hgA hgAl hbA)
            | (at_builtin;refine wpList_append_lies _ rfl (.tmp 75) (.tmp 80) 22 rfl w4.heap.size 54 i0 _ 4 56 Tryz.underlying22 hi hz0 hz1 hz2 rfl (by decide) _ X.cz.length cs rfl (hownA.alloc _) ⟨_,0,none⟩ 1 1 [.string name,.int .i64 super,.int .i64 slots,.slice none 0 0] rfl rfl (fun j u hu=>(by rw[Addr.add_lit,Nat.zero_add];exact (xaa wA _ 54 _ rfl j).trans (by simpa using hu))) (by intro u hu;simp at hu;rcases hu with rfl | rfl | rfl | rfl<;>rfl) (by omega) (by unfold maxLen;omega) (by omega) (by have:=hbA.size;simp at this;simp;omega) _ rfl ?_;intro gg cap2 w2 hown2 hgr hor hlt2;have hbAs:=hbA.size;have hb2:=xcr hownA (by simp at hbAs;omega) hgr;have hW2:Below w4.heap.size w4 w2:=(xah (xaj _ _) hbA).trans hb2;have hR2:=RC.out _ (xah hb4' hW2);have hB2:=RB.out _ (xah hb4' hW2);have q0:=hR2.1;have qf:=hR2.2;have c0:=hB2.1;have cf:=hB2.2;clear hR2 hB2))
           have hF:Below w.heap.size w ((((w2.setCell ⟨w.heap.size,0,none⟩ (.slice (some ⟨gg,0,none⟩) (X.cz.length+1) cap2)).setCell ⟨w.heap.size+1,0,none⟩ (.slice (some ⟨gg,0,none⟩) (X.cz.length+1) cap2)).setCell ⟨w.heap.size+1,1,none⟩ (.slice ah X.heap.length ch)).setCell ⟨w.heap.size+1,2,none⟩ (.int .i64 X.ez)):=xa9 ((xah hBr hW2).setCell (qzC _) _) (by omega) _ _ _
           refine bodyPost_ret (v:=.tuple #[WV (.slice (some ⟨gg,0,none⟩) (X.cz.length+1) cap2) (.slice ah X.heap.length ch) X.ez,.int .i64 X.cz.length,.int .i64 0]) ?_ rfl ⟨Or.inr ⟨HE0.out,_,rfl,?_⟩,hF⟩
           ·simp[results,Tryz.results49,go_sem,q0,qf,c0,cf]
           ·obtain⟨-,⟨e,h0⟩ | ⟨g,c,cur,e,h1,h2,h3,h4,h5,h6⟩⟩:=hown2
            ·cases h0
            ·cases e
             have hlen:(xnQ X name super slots).cz.length=X.cz.length+1:=by simp[xnQ]
             have hR:=Cells.row (bytes:=56) (cap:=cap2) (g:=gg) ((hcs.keep xaz (.of_below hF) (Q:=fun b=>P b\/w.heap.size<=b) fun _ h=>Or.inl h).append xaz (xdu (P:=fun b=>P b\/w.heap.size<=b) ⟨name,super,slots,[]⟩ _ hn xbG)) xaz (Or.inr (by omega)) (by rw[xab (by omega),xab (by omega),xab (by omega),xab (by omega)];exact h2) (by simpa using h6) (by simpa using h3) h4 (by simp;omega)
             rw[List.length_append] at hR
             exact hR
        ·have p1:0<super:=by simp[xfS] at hpl;omega
         have p2:super<4:=by simp[xfS] at hpl;omega
         go_wp2;refine bodyPost_ret (v:=.tuple #[WV (.slice none 0 0) (.slice none 0 0) 0,.int .i64 0,.int .i64 3]) ?_ rfl (HEND.out (by rw[HE.out,if_pos (Or.inr (Or.inr hpl))]) _ (xa9 hBr (by omega) _ _ _))
         simp[results,Tryz.results49,go_sem,q0,qf]
structure InsS where
 ms:List QM
 done:Bool
 was:Bool
def xdJ (m:QM)(s:InsS)(x:QM):InsS:=
 if eqN x.name m.name=true then ⟨s.ms++[m],true,true⟩
 else if s.done=false/\gtN x.name m.name=true then ⟨s.ms++[m]++[x],true,s.was⟩
 else ⟨s.ms++[x],s.done,s.was⟩
def xmS (m:QM)(xs:List QM):InsS:=xs.foldl (xdJ m) ⟨[],false,false⟩
def xo6 (m:QM)(xs:List QM):List QM:=if (xmS m xs).done then (xmS m xs).ms else (xmS m xs).ms++[m]
theorem RisesM.tail {x:QM}{r:List QM}(h:RisesM (x :: r)):RisesM r:=fun i a b ha hb=>h (i+1) a b (by simpa using ha) (by simpa using hb)
theorem RisesM.head {x:QM}:∀ {r:List QM},RisesM (x :: r)->∀ y∈r,ltN x.name y.name=true
 | [],_,y,hy=>by simp at hy
 | z :: r,h,y,hy=>by
  have h1:ltN x.name z.name=true:=h 0 x z rfl rfl
  rcases List.mem_cons.1 hy with rfl | hy
  ·exact h1
  ·exact xff h1 (RisesM.head h.tail y hy)
theorem xeX {m:QM}:∀ (r:List QM) (s:InsS),s.done=true->(∀ y∈r,ltN m.name y.name=true)->r.foldl (xdJ m) s=⟨s.ms++r,true,s.was⟩
 | [],s,h,_=>by cases s;simp at h ⊢;exact h
 | x :: r,s,h,hr=>by
  have h1:xdJ m s x=⟨s.ms++[x],true,s.was⟩:=by
   unfold xdJ;rw[if_neg (by rw[xd3 (hr x (by simp))];simp),if_neg (by simp[h]),h]
  rw[List.foldl_cons,h1,xeX r _ rfl fun y hy=>hr y (by simp[hy])]
  simp
theorem xfc {m:QM}:∀ (r pre:List QM),RisesM r->
  r.foldl (xdJ m) ⟨pre,false,false⟩=(match r.findIdx? (fun y=>eqN y.name m.name) with
   | some i=>⟨pre++r.set i m,true,true⟩
   | none=>match r.findIdx? (fun y=>gtN y.name m.name) with
    | some i=>⟨pre++(r.take i++[m]++r.drop i),true,false⟩
    | none=>⟨pre++r,false,false⟩)
 | [],pre,_=>by simp
 | x :: r,pre,h=>by
  have hh:=h.head
  cases he:eqN x.name m.name
  ·cases hg:gtN x.name m.name
   ·have h1:xdJ m ⟨pre,false,false⟩ x=⟨pre++[x],false,false⟩:=by simp[xdJ,he,hg]
    rw[List.foldl_cons,h1,xfc r _ h.tail];rw[List.findIdx?_cons,List.findIdx?_cons,he,hg]
    cases h2:r.findIdx? (fun y=>eqN y.name m.name) with
    | some i=>simp
    | none=>
     cases h3:r.findIdx? (fun y=>gtN y.name m.name) with
     | some i=>simp
     | none=>simp
   ·have h1:xdJ m ⟨pre,false,false⟩ x=⟨pre++[m]++[x],true,false⟩:=by simp[xdJ,he,hg]
    have hm:∀ y∈r,ltN m.name y.name=true:=fun y hy=>xff (xnB.1 hg) (hh y hy)
    rw[List.foldl_cons,h1,xeX r _ rfl hm];rw[List.findIdx?_cons,List.findIdx?_cons,he,hg]
    have h2:r.findIdx? (fun y=>eqN y.name m.name)=none:=by
     rw[List.findIdx?_eq_none_iff]
     exact fun y hy=>xd3 (hm y hy)
    rw[h2]
    simp
  ·have h1:xdJ m ⟨pre,false,false⟩ x=⟨pre++[m],true,true⟩:=by simp[xdJ,he]
   have hm:∀ y∈r,ltN m.name y.name=true:=fun y hy=>xoV he (hh y hy)
   rw[List.foldl_cons,h1,xeX r _ rfl hm];rw[List.findIdx?_cons,he]
   simp
theorem xlC {m:QM}{xs:List QM}(h:RisesM xs):(xmS m xs).was=decide (0<=xcu xs m.name):=by
 unfold xmS xcu xbt;rw[xfc xs [] h]
 cases h2:xs.findIdx? (fun y=>eqN y.name m.name) with
 | some i=>simp
 | none=>cases h3:xs.findIdx? (fun y=>gtN y.name m.name)<;>simp
theorem xmp {m:QM}{xs:List QM}(h:RisesM xs):xo6 m xs=xkP xs m:=by
 unfold xo6 xmS xkP xcu xk3 xbt;rw[xfc xs [] h]
 cases h2:xs.findIdx? (fun y=>eqN y.name m.name) with
 | some i=>simp
 | none=>
  cases h3:xs.findIdx? (fun y=>gtN y.name m.name) with
  | some i=>
   have:¬ ((i:Int)<0):=by omega
   simp[this]
  | none=>simp
end Go.Proofs.YtapbeiccodnniaaGreat
