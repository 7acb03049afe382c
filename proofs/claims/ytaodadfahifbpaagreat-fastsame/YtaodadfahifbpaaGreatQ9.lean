/- A part. -/
import Derived.Test.YtaodadfahifbpaaGreatQ8
namespace Go.Proofs.YtaodadfahifbpaaGreat
open Go.ChangeShapes Go.WideShapes Go.ChangeAt Go.RowKit
set_option linter.unusedSimpArgs false
set_option linter.unusedVariables false
set_option maxHeartbeats 8000000
set_option maxRecDepth 8000
structure PlOk (f:Fr):Prop where
 fast:f.fast=false
 code:f.code=f.meth.code
 nums:∃ S n,∀ x∈f.code,xgb S n f.meth x=0
 hts:(xaT f.code).2.1=0
 args:(f.args.length:Int)=f.meth.args
 temps:(f.temps.length:Int)=f.meth.temps
 pc:∃ k:Nat,f.pc=k/\k<f.code.length/\(f.stack.length:Int)=(xaT f.code).1.getD k 0
theorem xf0 {S n:Int}{m:QM}{x:QI}(h:xgb S n m x=0):1<=x.op/\x.op<=17/\(x.op=2->0<=x.a/\x.a<m.args)/\(x.op=3\/x.op=11->0<=x.a/\x.a<m.temps)/\(x.op=14->0<=x.a/\x.a<=4)/\x.b=0/\x.c=0:=by
 have h14:=xeD h;unfold xgb at h
 split at h
 ·cases h
 ·rename_i h1
  split at h
  ·cases h
  ·rename_i hra
   split at h
   ·cases h
   ·rename_i hr
    simp[inR] at h1
    refine⟨by omega,by omega,fun h2=>?_,fun h3=>?_,h14,by omega,by omega⟩
    ·simp[raE,h2,inR] at hra;omega
    ·rcases h3 with h3 | h3<;>(simp[raE,h3,inR] at hra;omega)
structure NxOk (f:Fr)(k:Nat)(x:QI):Prop where
 pc:f.pc=k
 lt:k<f.code.length
 here:f.code[k]?=some x
 need:(xaS x k).need<=f.stack.length
 back:x.op=17->f.stack.length=1
 few:f.stack.length<=12
 next:∀ t∈(xaS x k).next,∃ j:Nat,t=(j:Int)/\j<f.code.length/\(xaT f.code).1.getD j 0=f.stack.length+(xaS x k).more
 kind:1<=x.op/\x.op<=17
 arg:x.op=2->0<=x.a/\x.a<f.args.length
 temp:x.op=3\/x.op=11->0<=x.a/\x.a<f.temps.length
 send:x.op=14->0<=x.a/\x.a<=4
 zero:x.b=0/\x.c=0
theorem PlOk.nx {f:Fr}(h:PlOk f):∃ k x,NxOk f k x:=by
 obtain⟨S,n,hn⟩:=h.nums;obtain⟨k,hk,hlt,hs⟩:=h.pc;have hx:f.code[k]?=some f.code[k]:=List.getElem?_eq_getElem hlt;have hso:xdr f.code:=fun y hy=>xeD (hn y hy)
 obtain⟨-,-,-,hat⟩:=xg1 hso h.hts;obtain⟨h1,h2,h3,h4⟩:=hat k _ hx (by omega)
 obtain⟨n1,n2,n3,n4,n5,n6,n7⟩:=xf0 (hn f.code[k] (List.getElem_mem hlt));rw[← h.args] at n3;rw[← h.temps] at n4;refine⟨k,f.code[k],hk,hlt,hx,by omega,fun h17=>by have:=h3 h17;omega,by omega,fun t ht=>?_,⟨n1,n2⟩,n3,n4,n5,⟨n6,n7⟩⟩
 obtain⟨j,j1,j2,j3⟩:=h4 t ht
 exact⟨j,j1,j2,by omega⟩
theorem PlOk.go {f f':Fr}(h:PlOk f){k:Nat}{x:QI}(hx:NxOk f k x)(e1:f'.meth=f.meth)(e2:f'.args=f.args)(e3:f'.code=f.code)(e4:f'.fast=f.fast)(e5:f'.temps.length=f.temps.length)(e6:(f'.stack.length:Int)=f.stack.length+(xaS x k).more)(e7:f'.pc∈(xaS x k).next):PlOk f':=by
 obtain⟨j,j1,j2,j3⟩:=hx.next _ e7;refine⟨e4.trans h.fast,by rw[e3,e1];exact h.code,by rw[e3,e1];exact h.nums,by rw[e3];exact h.hts,by rw[e2,e1];exact h.args,by rw[e5,e1];exact h.temps,j,j1,by rw[e3];exact j2,by rw[e3,j3];exact e6⟩
theorem xi2 {σ:Type}{m:Mc σ}{f:Fr}{a b:Int}(h0:(xaV m f a b).2.2=0):(xaV m f a b).2.1={ f with pc:=b }:=by
 unfold xaV at h0 ⊢;simp only[] at h0 ⊢;generalize (if b<=a then { m with tz:=m.tz+1 } else m:Mc σ)=m' at h0 ⊢
 by_cases h:300<m'.tz
 ·rw[if_pos h] at h0;cases h0
 ·rw[if_neg h]
theorem xfb {h:List QO}{f:Fr}{x:QI}{v:QV}(e:xao h f x=some v):1<=x.op/\x.op<=8:=by
 unfold xao at e
 split at e
 ·omega
 ·split at e
  ·omega
  ·split at e
   ·omega
   ·split at e
    ·omega
    ·split at e
     ·omega
     ·split at e
      ·omega
      ·split at e
       ·omega
       ·split at e
        ·omega
        ·cases e
theorem xhN {σ:Type}{ent:Ent σ}{E:Env σ}{d:Nat}{m:Mc σ}{f:Fr}(h:PlOk f){k:Nat}{x:QI}(hx:NxOk f k x)(h17:x.op≠17)(h0:(xaj ent E d m { f with pc:=f.pc+1 } f.pc x).2.2=0):PlOk (xaj ent E d m { f with pc:=f.pc+1 } f.pc x).2.1:=by
 have hpc:=hx.pc;have hneed:=hx.need;have hkind:=hx.kind;unfold xaj at h0 ⊢
 split
 ·rename_i v e;have ho:=xfb e
  have hn:xaS x k=⟨0,1,[(k:Int)+1]⟩:=by
   unfold xaS;rw[if_neg (by omega),if_neg (by omega),if_neg (by omega),if_neg (by omega),if_neg (by omega),if_neg (by omega)]
  exact h.go hx rfl rfl rfl rfl rfl (by rw[hn];simp[Fr.push]) (by rw[hn,← hpc];simp[Fr.push])
 ·rename_i e;rw[e] at h0;simp only[] at h0
  split
  ·rename_i h9;have hn:xaS x k=⟨1,-1,[(k:Int)+1]⟩:=by unfold xaS;rw[if_pos (by omega)]
   rw[hn] at hneed;simp only[] at hneed
   exact h.go hx rfl rfl rfl rfl rfl (by rw[hn];simp[Fr.pop];omega) (by rw[hn,← hpc];simp[Fr.pop])
  ·split
   ·rename_i h9 h10;have hn:xaS x k=⟨1,1,[(k:Int)+1]⟩:=by unfold xaS;rw[if_neg (by omega),if_pos h10]
    exact h.go hx rfl rfl rfl rfl rfl (by rw[hn];simp[Fr.push]) (by rw[hn,← hpc];simp[Fr.push])
   ·split
    ·rename_i h9 h10 h11;have hn:xaS x k=⟨1,-1,[(k:Int)+1]⟩:=by unfold xaS;rw[if_pos (by omega)]
     rw[hn] at hneed;simp only[] at hneed
     exact h.go hx rfl rfl rfl rfl (by simp[xbE]) (by rw[hn];simp[Fr.pop];omega) (by rw[hn,← hpc];simp[Fr.pop])
    ·split
     ·rename_i h9 h10 h11 h12;have hn:xaS x k=⟨1,-1,[(k:Int)+1]⟩:=by unfold xaS;rw[if_pos (by omega)]
      rw[hn] at hneed;simp only[] at hneed
      exact h.go hx rfl rfl rfl rfl rfl (by rw[hn];simp[Fr.pop];omega) (by rw[hn,← hpc];simp[Fr.pop])
     ·split
      ·rename_i h9 h10 h11 h12 h13;rw[if_neg h9,if_neg h10,if_neg h11,if_neg h12,if_pos h13] at h0
       have hn:xaS x k=⟨0,1,[(k:Int)+1]⟩:=by
        unfold xaS;rw[if_neg (by omega),if_neg (by omega),if_neg (by omega),if_neg (by omega),if_neg (by omega),if_neg (by omega)]
       unfold xbV at h0 ⊢
       split
       ·rename_i hc;rw[if_pos hc] at h0;cases h0
       ·exact h.go hx rfl rfl rfl rfl rfl (by rw[hn];simp[Fr.push]) (by rw[hn,← hpc];simp[Fr.push])
      ·split
       ·rename_i h9 h10 h11 h12 h13 h14;rw[if_neg h9,if_neg h10,if_neg h11,if_neg h12,if_neg h13,if_pos h14] at h0;have hn:xaS x k=⟨x.a+1,-x.a,[(k:Int)+1]⟩:=by unfold xaS;rw[if_neg (by omega),if_neg (by omega),if_pos h14]
        rw[hn] at hneed;simp only[] at hneed;have ha:=hx.send h14;unfold xbD at h0 ⊢;simp only[] at h0 ⊢
        split
        ·rename_i hc;rw[if_pos hc] at h0;exact absurd h0 hc
        ·exact h.go hx rfl rfl rfl rfl rfl (by rw[hn];simp only[List.length_append,List.length_dropLast,List.length_take,List.length_cons,List.length_nil,xbp];omega) (by rw[hn,← hpc];simp)
       ·split
        ·rename_i h9 h10 h11 h12 h13 h14 h15;rw[if_neg h9,if_neg h10,if_neg h11,if_neg h12,if_neg h13,if_neg h14,if_pos h15] at h0;have hn:xaS x k=⟨0,0,[x.a]⟩:=by unfold xaS;rw[if_neg (by omega),if_neg (by omega),if_neg (by omega),if_pos h15]
         rw[xi2 h0]
         exact h.go hx rfl rfl rfl rfl rfl (by rw[hn];simp) (by rw[hn];simp)
        ·split
         ·rename_i h9 h10 h11 h12 h13 h14 h15 h16;rw[if_neg h9,if_neg h10,if_neg h11,if_neg h12,if_neg h13,if_neg h14,if_neg h15,if_pos h16] at h0;have hn:xaS x k=⟨1,-1,[(k:Int)+1,x.a]⟩:=by unfold xaS;rw[if_neg (by omega),if_neg (by omega),if_neg (by omega),if_neg (by omega),if_pos h16]
          rw[hn] at hneed;simp only[] at hneed;unfold xbz at h0 ⊢
          split
          ·exact h.go hx rfl rfl rfl rfl rfl (by rw[hn];simp[Fr.pop];omega) (by rw[hn,← hpc];simp[Fr.pop])
          ·rename_i k2;rw[if_neg k2] at h0
           split
           ·rename_i k1;rw[if_pos k1] at h0;rw[xi2 h0]
            exact h.go hx rfl rfl rfl rfl rfl (by rw[hn];simp[Fr.pop];omega) (by rw[hn];simp[Fr.pop])
           ·rename_i k1;rw[if_neg k1] at h0
            cases h0
         ·exfalso;rename_i h9 h10 h11 h12 h13 h14 h15 h16;rw[if_neg h9,if_neg h10,if_neg h11,if_neg h12,if_neg h13,if_neg h14,if_neg h15,if_neg h16] at h0;unfold xbQ at h0;rw[if_pos h.fast] at h0
          cases h0
section
variable {σ:Type}
def muE (m:Mc σ)(f:Fr):Nat:=(if f.fast then 302*(f.meth.code.length+1) else 0)+(301-m.tz).toNat*(f.code.length+1)+(f.code.length-f.pc.toNat)
theorem xrj {m m':Mc σ}{f f':Fr}(ht:m.tz<=m'.tz)(e1:f'.fast=f.fast)(e2:f'.meth=f.meth)(e3:f'.code=f.code)(h0:0<=f.pc)(hl:f.pc.toNat<f.code.length)(hp:f.pc<f'.pc):muE m' f'<muE m f:=by
 unfold muE;rw[e1,e2,e3];have h1:(301-m'.tz).toNat*(f.code.length+1)<=(301-m.tz).toNat*(f.code.length+1):=Nat.mul_le_mul_right _ (by omega)
 omega
theorem xqo {m m':Mc σ}{f f':Fr}(ht:m'.tz=m.tz+1)(h300:m'.tz<=300)(e1:f'.fast=f.fast)(e2:f'.meth=f.meth)(e3:f'.code=f.code):muE m' f'<muE m f:=by
 unfold muE;rw[e1,e2,e3];have h1:(301-m.tz).toNat=(301-m'.tz).toNat+1:=by omega
 rw[h1,Nat.add_mul,Nat.one_mul]
 omega
theorem xn9 {m:Mc σ}{f:Fr}(h0:0<=m.tz)(hf:f.fast=true)(c:Int):muE m (f.leave c)<muE m f:=by
 unfold muE;have e1:(f.leave c).fast=false:=rfl;have e2:(f.leave c).code=f.meth.code:=rfl;rw[e1,e2,hf];simp only[Bool.false_eq_true,if_false,if_true];have h1:(301-m.tz).toNat*(f.meth.code.length+1)<=301*(f.meth.code.length+1):=Nat.mul_le_mul_right _ (by omega)
 omega
theorem xg8 {m:Mc σ}{f:Fr}(h0:0<=m.tz):muE m f<=xf4 f:=by
 unfold muE xf4;have h1:(301-m.tz).toNat*(f.code.length+1)<=301*(f.code.length+1):=Nat.mul_le_mul_right _ (by omega)
 split<;>omega
def xbt (ent:Ent σ):Prop:=∀ m c n s a,m.tz<=(ent m c n s a).1.tz
theorem xmm {m:Mc σ}{f:Fr}(h0:0<=f.pc)(hl:f.pc.toNat<f.code.length){f1:Fr}(e1:f1.fast=f.fast)(e2:f1.meth=f.meth)(e3:f1.code=f.code){b:Int}(he:(xaV m f1 f.pc b).2.2=0):muE (xaV m f1 f.pc b).1 (xaV m f1 f.pc b).2.1<muE m f:=by
 unfold xaV at he ⊢
 by_cases hb:b<=f.pc
 ·simp only[hb,if_true] at he ⊢
  by_cases h:300<m.tz+1
  ·rw[if_pos h] at he;cases he
  ·rw[if_neg h]
   exact xqo rfl (by simp only[];omega) e1 e2 e3
 ·simp only[hb,if_false] at he ⊢
  by_cases h:300<m.tz
  ·rw[if_pos h] at he;cases he
  ·rw[if_neg h]
   exact xrj (Int.le_refl _) e1 e2 e3 h0 hl (by simp only[];omega)
theorem xgc {ent:Ent σ}(ht:xbt ent){E:Env σ}{d:Nat}{m:Mc σ}{f:Fr}(hm:0<=m.tz)(h0:0<=f.pc)(hl:f.pc.toNat<f.code.length){x:QI}(he:(xaj ent E d m { f with pc:=f.pc+1 } f.pc x).2.2=0):muE (xaj ent E d m { f with pc:=f.pc+1 } f.pc x).1 (xaj ent E d m { f with pc:=f.pc+1 } f.pc x).2.1<muE m f:=by
 have on:∀ {m':Mc σ} {f':Fr},m.tz<=m'.tz->f'.fast=f.fast->f'.meth=f.meth->f'.code=f.code->f'.pc=f.pc+1->muE m' f'<muE m f:=fun a b c d e=>xrj a b c d h0 hl (by omega)
 unfold xaj at he ⊢
 split
 ·exact on (Int.le_refl _) rfl rfl rfl rfl
 ·rename_i e;rw[e] at he;simp only[] at he
  split
  ·exact on (Int.le_refl _) rfl rfl rfl rfl
  ·split
   ·exact on (Int.le_refl _) rfl rfl rfl rfl
   ·split
    ·exact on (Int.le_refl _) rfl rfl rfl rfl
    ·split
     ·exact on (Int.le_refl _) rfl rfl rfl rfl
     ·split
      ·rename_i h9 h10 h11 h12 h13;rw[if_neg h9,if_neg h10,if_neg h11,if_neg h12,if_pos h13] at he;unfold xbV at he ⊢
       split
       ·rename_i hc;rw[if_pos hc] at he;cases he
       ·exact on (Int.le_refl _) rfl rfl rfl rfl
      ·split
       ·rename_i h9 h10 h11 h12 h13 h14;rw[if_neg h9,if_neg h10,if_neg h11,if_neg h12,if_neg h13,if_pos h14] at he;unfold xbD at he ⊢;simp only[] at he ⊢
        split
        ·rename_i hc;rw[if_pos hc] at he;exact absurd he hc
        ·exact on (ht _ _ _ _ _) rfl rfl rfl rfl
       ·split
        ·rename_i h9 h10 h11 h12 h13 h14 h15;rw[if_neg h9,if_neg h10,if_neg h11,if_neg h12,if_neg h13,if_neg h14,if_pos h15] at he
         exact xmm (f1:={ f with pc:=f.pc+1 }) h0 hl rfl rfl rfl he
        ·split
         ·rename_i h9 h10 h11 h12 h13 h14 h15 h16;rw[if_neg h9,if_neg h10,if_neg h11,if_neg h12,if_neg h13,if_neg h14,if_neg h15,if_pos h16] at he;unfold xbz at he ⊢
          split
          ·exact on (Int.le_refl _) rfl rfl rfl rfl
          ·rename_i k2;rw[if_neg k2] at he
           split
           ·rename_i k1;rw[if_pos k1] at he
            exact xmm (f1:=Fr.pop { f with pc:=f.pc+1 }) h0 hl rfl rfl rfl he
           ·rename_i k1;rw[if_neg k1] at he
            cases he
         ·rename_i h9 h10 h11 h12 h13 h14 h15 h16;rw[if_neg h9,if_neg h10,if_neg h11,if_neg h12,if_neg h13,if_neg h14,if_neg h15,if_neg h16] at he;unfold xbQ at he ⊢
          split
          ·rename_i k;rw[if_pos k] at he;cases he
          ·rename_i hfast;have hfast':f.fast=true:=by simpa using hfast
           split
           ·simp only[]
            split
            ·exact on (Int.le_refl _) rfl rfl rfl rfl
            ·have:=xn9 (m:=m) (f:={ f with pc:=f.pc+1 }) hm hfast' x.c
             have h2:muE m { f with pc:=f.pc+1 }<muE m f:=on (Int.le_refl _) rfl rfl rfl rfl
             omega
           ·split
            ·exact on (Int.le_refl _) rfl rfl rfl rfl
            ·split
             ·exact on (Int.le_refl _) rfl rfl rfl rfl
             ·split
              ·refine on ?_ rfl rfl rfl rfl;simp only[xau]
               split
               ·exact Int.le_refl _
               ·split
                ·exact Int.le_refl _
                ·exact Int.le_refl _
              ·exact on (Int.le_refl _) rfl rfl rfl rfl
theorem xhd (m:Mc σ)(f:Fr)(a b:Int):m.tz<=(xaV m f a b).1.tz:=by
 unfold xaV
 by_cases h:b<=a
 ·simp only[h,if_true]
  split<;>(simp only[];omega)
 ·simp only[h,if_false]
  split<;>exact Int.le_refl _
theorem xec (E:Env σ)(d:Nat)(m:Mc σ):(xau E d m).1.tz=m.tz:=by
 unfold xau
 split
 ·rfl
 ·split<;>rfl
theorem xc9 {ent:Ent σ}(ht:xbt ent)(E:Env σ)(d:Nat)(m:Mc σ)(f:Fr)(a:Int)(x:QI):m.tz<=(xaj ent E d m f a x).1.tz:=by
 unfold xaj
 split
 ·exact Int.le_refl _
 ·split
  ·exact Int.le_refl _
  ·split
   ·exact Int.le_refl _
   ·split
    ·exact Int.le_refl _
    ·split
     ·exact Int.le_refl _
     ·split
      ·unfold xbV
       split<;>exact Int.le_refl _
      ·split
       ·unfold xbD;simp only[]
        split
        ·exact ht { m with st:=_ } _ _ _ _
        ·exact ht { m with st:=_ } _ _ _ _
       ·split
        ·exact xhd _ _ _ _
        ·split
         ·unfold xbz
          split
          ·exact Int.le_refl _
          ·split
           ·exact xhd _ _ _ _
           ·exact Int.le_refl _
         ·unfold xbQ
          split
          ·exact Int.le_refl _
          ·split
           ·exact Int.le_refl _
           ·split
            ·exact Int.le_refl _
            ·split
             ·exact Int.le_refl _
             ·split
              ·exact Int.le_of_eq (xec E d m).symm
              ·exact Int.le_refl _
theorem xie {ent:Ent σ}(ht:xbt ent)(E:Env σ)(d:Nat):∀ (g:Nat) (m:Mc σ) (f:Fr),m.tz<=(xb7 ent E d g m f).1.tz
 | 0,m,f=>Int.le_refl _
 | g+1,m,f=>by
  unfold xb7;generalize (if f.pc<0 then none else f.code[f.pc.toNat]?)=q
  cases q with
  | none=>exact Int.le_refl _
  | some x=>
   simp only[]
   split
   ·exact Int.le_refl _
   ·have h1:=xc9 ht E d m { f with pc:=f.pc+1 } f.pc x
    split
    ·exact h1
    ·exact Int.le_trans h1 (xie ht E d g _ _)
theorem xgD (E:Env σ)(d:Nat){body:Mc σ->Fr->Mc σ × QV × Int}(hb:∀ m f,m.tz<=(body m f).1.tz):xbt (xbc E d body):=by
 intro m c n s a;unfold xbc
 cases xaI E.cz c n with
 | none=>exact Int.le_refl _
 | some mt=>
  simp only[]
  split
  ·exact Int.le_refl _
  ·split
   ·split<;>exact Int.le_refl _
   ·split
    ·exact Int.le_refl _
    ·have h1:=xec E d m;have h2:=hb (xau E d m).1 (xaK E c n mt s a)
     omega
theorem xbK (E:Env σ):∀ d:Nat,xbt (xa4 E d)
 | 0=>xgD E 0 fun m f=>Int.le_refl _
 | d+1=>xgD E (d+1) fun m f=>xie (xbK E d) E d _ m f
theorem xdS {X:QW}(h:xaH X=0){c n:Int}{m:QM}(hm:xaI X.cz c n=some m):(m.prim≠0/\m.args=1)\/(m.prim=0/\∃ S N:Int,wmE X.cz.length c m=0/\(∀ x∈m.code,xgb S N m x=0)/\(xaT m.code).2.1=0):=by
 obtain⟨hs,-,hk,-⟩:=xcl h;unfold xaI at hm
 cases hx:xbx X.cz c with
 | none=>rw[hx] at hm;cases hm
 | some x=>
  rw[hx] at hm;simp only[Option.bind_some] at hm;obtain⟨k,rfl,hx'⟩:=xa7 hx
  split at hm
  ·have hr:=hk k x (xae hx') hx';unfold rkE at hr
   split at hr
   ·cases hr
   ·split at hr
    ·cases hr
    ·have hq:=xbM hr _ _ hm;unfold rmE at hq
     split at hq
     ·cases hq
     ·split at hq
      ·rename_i hp
       left
       unfold xgQ at hp;rw[List.any_eq_true] at hp;obtain⟨p,hpm,hp⟩:=hp;simp only[Bool.and_eq_true,decide_eq_true_eq] at hp;refine⟨?_,hp.1.1.2⟩;rw[← hp.1.1.1.2]
       have:∀ q∈xgJ,q.prim≠0:=by
        intro q hq
        simp[xgJ] at hq
        rcases hq with rfl | rfl | rfl | rfl | rfl<;>decide
       exact this p hpm
      ·right
       unfold xd9 at hq
       split at hq
       ·rename_i a;exact absurd hq a
       ·rename_i a;have hw:wmE X.cz.length k m=0:=Decidable.of_not_not a
        split at hq
        ·rename_i f e;exact absurd hq (xhZ e)
        ·rename_i e;refine⟨?_,_,_,hw,xhY e,hq⟩;unfold wmE at hw
         split at hw
         ·cases hw
         ·split at hw
          ·cases hw
          ·split at hw
           ·cases hw
           ·split at hw
            ·cases hw
            ·rename_i hp;exact Decidable.of_not_not hp
  ·cases hm
theorem xh0 {X:QW}(h:xaH X=0){c n:Int}{m:QM}(hm:xaI X.cz c n=some m)(hp:m.prim=0){a:List QV}(ha:m.args=a.length)(s:QV){E:Env σ}(hq:E.quick c n=none):PlOk (xaK E c n m s a):=by
 rcases xdS h hm with ⟨hp',-⟩ | ⟨-,S,N,hw,hn,hh⟩
 ·exact absurd hp hp'
 ·obtain⟨hw1,hw2,hw3,-,-,-⟩:=xkn hw;have hso:xdr m.code:=fun y hy=>xeD (hn y hy)
  obtain⟨-,h1,h2,-⟩:=xg1 hso hh;have hfr:xaK E c n m s a=⟨c,m,s,a,xaG m.temps,[],m.code,0,false⟩:=by unfold xaK;rw[hq]
  rw[hfr];refine⟨rfl,rfl,⟨S,N,hn⟩,hh,ha.symm,?_,0,rfl,h1,?_⟩
  ·simp only[xaG,List.length_replicate];omega
  ·rw[h2];rfl
end
section
variable {σ τ:Type}
structure MR (Rel:σ->τ->Prop)(m:Mc σ)(m':Mc τ):Prop where
 heap:m'.heap=m.heap
 sz_:m'.sz_=m.sz_
 tz:m'.tz=m.tz
 st:Rel m.st m'.st
def RR {α:Type}(Rel:σ->τ->Prop)(r:Mc σ × α × Int)(r':Mc τ × α × Int):Prop:=MR Rel r.1 r'.1/\r'.2=r.2
structure ER (Rel:σ->τ->Prop)(SOk:QS->ByteArray->Prop)(E:Env σ)(E':Env τ):Prop where
 cz:E'.cz=E.cz
 fuel:E'.fuel=E.fuel
 quick:E'.quick=E.quick
 look:∀ s t x c name,Rel s t->SOk x name->(E'.look t x c name).2=(E.look s x c name).2/\Rel (E.look s x c name).1 (E'.look t x c name).1
 plain:∀ c n m,xaI E.cz c n=some m->∀ (k:Nat) x,m.code[k]?=some x->x.op=14->SOk ⟨c,m.name,k⟩ x.name
 fast:∀ c n m q,xaI E.cz c n=some m->E.quick c n=some q->∀ x∈q.1,x.op=14->SOk ⟨c,m.name,x.c⟩ x.name
structure FR (SOk:QS->ByteArray->Prop)(f:Fr):Prop where
 code:f.fast=false->f.code=f.meth.code
 plain:∀ (k:Nat) x,f.meth.code[k]?=some x->x.op=14->SOk ⟨f.cls,f.meth.name,k⟩ x.name
 fast:f.fast=true->∀ x∈f.code,x.op=14->SOk ⟨f.cls,f.meth.name,x.c⟩ x.name
theorem FR.same {SOk:QS->ByteArray->Prop}{f f':Fr}(h:FR SOk f)(e1:f'.fast=f.fast)(e2:f'.code=f.code)(e3:f'.meth=f.meth)(e4:f'.cls=f.cls):FR SOk f':=by
 refine⟨?_,?_,?_⟩
 ·rw[e1,e2,e3];exact h.code
 ·rw[e3,e4];exact h.plain
 ·rw[e1,e2,e3,e4];exact h.fast
theorem FR.leave {SOk:QS->ByteArray->Prop}{f:Fr}(h:FR SOk f)(c:Int):FR SOk (f.leave c):=⟨fun _=>rfl,h.plain,fun h=>by cases h⟩
def xrC (Rel:σ->τ->Prop)(ent:Ent σ)(ent':Ent τ):Prop:=∀ m m' c n s a,MR Rel m m'->RR Rel (ent m c n s a) (ent' m' c n s a)
theorem xkL {Rel:σ->τ->Prop}{m:Mc σ}{m':Mc τ}(h:MR Rel m m')(f:Fr)(a b:Int):RR Rel (xaV m f a b) (xaV m' f a b):=by
 unfold xaV
 by_cases hb:b<=a
 ·simp only[hb,if_true,h.tz]
  split
  ·exact⟨⟨h.heap,h.sz_,rfl,h.st⟩,rfl⟩
  ·exact⟨⟨h.heap,h.sz_,rfl,h.st⟩,rfl⟩
 ·simp only[hb,if_false,h.tz]
  split
  ·exact⟨h,rfl⟩
  ·exact⟨h,rfl⟩
theorem xiM {Rel:σ->τ->Prop}{SOk:QS->ByteArray->Prop}{E:Env σ}{E':Env τ}(hE:ER Rel SOk E E')(d:Nat){m:Mc σ}{m':Mc τ}(h:MR Rel m m'):MR Rel (xau E d m).1 (xau E' d m').1/\(xau E' d m').2=(xau E d m).2:=by
 unfold xau;rw[hE.fuel,h.sz_]
 split
 ·exact⟨h,rfl⟩
 ·split
  ·exact⟨h,rfl⟩
  ·exact⟨⟨h.heap,rfl,h.tz,h.st⟩,rfl⟩
theorem xn6 {Rel:σ->τ->Prop}{SOk:QS->ByteArray->Prop}{E:Env σ}{E':Env τ}(hE:ER Rel SOk E E'){ent:Ent σ}{ent':Ent τ}(he:xrC Rel ent ent')(d:Nat){m:Mc σ}{m':Mc τ}(h:MR Rel m m'){f:Fr}{at':Int}{x:QI}(hs:x.op=14->SOk (f.site at' x) x.name):RR Rel (xaj ent E d m f at' x) (xaj ent' E' d m' f at' x):=by
 unfold xaj;rw[h.heap]
 split
 ·exact⟨h,rfl⟩
 ·split
  ·exact⟨h,rfl⟩
  ·split
   ·exact⟨h,rfl⟩
   ·split
    ·exact⟨h,rfl⟩
    ·split
     ·exact⟨⟨rfl,h.sz_,h.tz,h.st⟩,rfl⟩
     ·split
      ·unfold xbV;rw[h.heap,hE.cz]
       split
       ·exact⟨h,rfl⟩
       ·exact⟨⟨rfl,h.sz_,h.tz,h.st⟩,rfl⟩
      ·split
       ·rename_i h14;unfold xbD;simp only[];rw[h.heap];obtain⟨l1,l2⟩:=hE.look m.st m'.st (f.site at' x) (xas m.heap (xaQ (f.stack.take (xbp f.stack x.a)) 0)) x.name h.st (hs h14);generalize E.look m.st (f.site at' x) (xas m.heap (xaQ (f.stack.take (xbp f.stack x.a)) 0)) x.name=l at l1 l2 ⊢;generalize E'.look m'.st (f.site at' x) (xas m.heap (xaQ (f.stack.take (xbp f.stack x.a)) 0)) x.name=l' at l1 l2 ⊢;obtain⟨q1,q2⟩:=l;obtain⟨q1',q2'⟩:=l';simp only[] at l1 l2;subst l1;have hr:=he { m with st:=q1 } { m' with st:=q1' } q2'.1 q2'.2 (xaQ (f.stack.take (xbp f.stack x.a)) 0) (f.stack.drop (xbp f.stack x.a)) ⟨h.heap,h.sz_,h.tz,l2⟩
        simp only[h.heap] at hr;generalize ent { m with st:=q1 } q2'.1 q2'.2 (xaQ (f.stack.take (xbp f.stack x.a)) 0) (f.stack.drop (xbp f.stack x.a))=r at hr ⊢
        generalize ent' { heap:=m.heap,sz_:=m'.sz_,tz:=m'.tz,st:=q1' } q2'.1 q2'.2 (xaQ (f.stack.take (xbp f.stack x.a)) 0) (f.stack.drop (xbp f.stack x.a))=r' at hr ⊢;obtain⟨r1,r2⟩:=hr;rw[r2]
        split
        ·exact⟨r1,rfl⟩
        ·exact⟨r1,rfl⟩
       ·split
        ·exact xkL h f at' x.a
        ·split
         ·unfold xbz
          split
          ·exact⟨h,rfl⟩
          ·split
           ·exact xkL h f.pop at' x.a
           ·exact⟨h,rfl⟩
         ·unfold xbQ;rw[h.heap]
          split
          ·exact⟨h,rfl⟩
          ·split
           ·exact⟨h,rfl⟩
           ·split
            ·exact⟨h,rfl⟩
            ·split
             ·exact⟨⟨rfl,h.sz_,h.tz,h.st⟩,rfl⟩
             ·split
              ·obtain⟨c1,c2⟩:=xiM hE d h;refine⟨c1,?_⟩;simp only[];rw[c2]
              ·exact⟨h,rfl⟩
theorem xns {SOk:QS->ByteArray->Prop}(m:Mc σ){f:Fr}(h:FR SOk f)(a b:Int):FR SOk (xaV m f a b).2.1:=by
 unfold xaV;simp only[];generalize (if b<=a then { m with tz:=m.tz+1 } else m:Mc σ)=m'
 split
 ·exact h
 ·exact h.same rfl rfl rfl rfl
theorem xqm {SOk:QS->ByteArray->Prop}(ent:Ent σ)(E:Env σ)(d:Nat)(m:Mc σ){f:Fr}(h:FR SOk f)(a:Int)(x:QI):FR SOk (xaj ent E d m f a x).2.1:=by
 unfold xaj
 split
 ·exact h.same rfl rfl rfl rfl
 ·split
  ·exact h.same rfl rfl rfl rfl
  ·split
   ·exact h.same rfl rfl rfl rfl
   ·split
    ·exact h.same rfl rfl rfl rfl
    ·split
     ·exact h.same rfl rfl rfl rfl
     ·split
      ·unfold xbV
       split
       ·exact h
       ·exact h.same rfl rfl rfl rfl
      ·split
       ·unfold xbD;simp only[]
        split
        ·exact h
        ·exact h.same rfl rfl rfl rfl
       ·split
        ·exact xns m h a x.a
        ·split
         ·unfold xbz
          split
          ·exact h.same rfl rfl rfl rfl
          ·split
           ·exact xns m (f:=f.pop) (h.same rfl rfl rfl rfl) a x.a
           ·exact h
         ·unfold xbQ
          split
          ·exact h
          ·split
           ·simp only[]
            split
            ·exact h
            ·exact h.leave x.c
           ·split
            ·exact h.same rfl rfl rfl rfl
            ·split
             ·exact h.same rfl rfl rfl rfl
             ·split
              ·exact h
              ·exact h
theorem FR.site {SOk:QS->ByteArray->Prop}{f:Fr}(h:FR SOk f){x:QI}(h0:¬ f.pc<0)(hx:f.code[f.pc.toNat]?=some x)(h14:x.op=14)(t:Int):SOk (Fr.site { f with pc:=t } f.pc x) x.name:=by
 unfold Fr.site
 cases hf:f.fast with
 | false=>
  simp only[Bool.false_eq_true,if_false];rw[h.code hf] at hx;have:=h.plain _ x hx h14
  rwa [show ((f.pc.toNat:Nat):Int)=f.pc by omega] at this
 | true=>
  simp only[if_true]
  exact h.fast hf x (List.mem_of_getElem? hx) h14
theorem xmT {Rel:σ->τ->Prop}{SOk:QS->ByteArray->Prop}{E:Env σ}{E':Env τ}(hE:ER Rel SOk E E'){ent:Ent σ}{ent':Ent τ}(he:xrC Rel ent ent')(d:Nat):∀ (g:Nat) {m:Mc σ} {m':Mc τ} {f:Fr},MR Rel m m'->FR SOk f->RR Rel (xb7 ent E d g m f) (xb7 ent' E' d g m' f)
 | 0,m,m',f,h,hf=>⟨h,rfl⟩
 | g+1,m,m',f,h,hf=>by
  unfold xb7
  cases hq:(if f.pc<0 then none else f.code[f.pc.toNat]?) with
  | none=>exact⟨h,rfl⟩
  | some x=>
   simp only[]
   split
   ·exact⟨h,rfl⟩
   ·have hs:x.op=14->SOk (Fr.site { f with pc:=f.pc+1 } f.pc x) x.name:=fun h14=>by
     split at hq
     ·cases hq
     ·rename_i h0;exact hf.site h0 hq h14 _
    have hr:=xn6 hE he d h (f:={ f with pc:=f.pc+1 }) (at':=f.pc) hs
    have hfr:=xqm ent E d m (f:={ f with pc:=f.pc+1 }) (hf.same rfl rfl rfl rfl) f.pc x
    generalize xaj ent E d m { f with pc:=f.pc+1 } f.pc x=r at hr hfr ⊢
    generalize xaj ent' E' d m' { f with pc:=f.pc+1 } f.pc x=r' at hr ⊢
    obtain⟨r1,r2⟩:=hr;rw[r2]
    split
    ·exact⟨r1,rfl⟩
    ·exact xmT hE he d g r1 hfr
theorem xim {Rel:σ->τ->Prop}{SOk:QS->ByteArray->Prop}{E:Env σ}{E':Env τ}(hE:ER Rel SOk E E')(d:Nat){body:Mc σ->Fr->Mc σ × QV × Int}{body':Mc τ->Fr->Mc τ × QV × Int}(hb:∀ {m m' f},MR Rel m m'->FR SOk f->RR Rel (body m f) (body' m' f)):xrC Rel (xbc E d body) (xbc E' d body'):=by
 intro m m' c n s a h;unfold xbc;rw[hE.cz,hE.fuel,h.sz_]
 cases hm:xaI E.cz c n with
 | none=>exact⟨h,rfl⟩
 | some mt=>
  simp only[];have hfr:xaK E' c n mt s a=xaK E c n mt s a:=by unfold xaK;rw[hE.quick]
  have hf:FR SOk (xaK E c n mt s a):=by
   unfold xaK
   cases hq:E.quick c n with
   | none=>exact⟨fun _=>rfl,hE.plain c n mt hm,fun h=>by cases h⟩
   | some q=>exact⟨fun h=>(by cases h),hE.plain c n mt hm,fun _=>hE.fast c n mt q hm hq⟩
  split
  ·exact⟨h,rfl⟩
  ·split
   ·split
    ·exact⟨h,rfl⟩
    ·exact⟨⟨h.heap,rfl,h.tz,h.st⟩,rfl⟩
   ·obtain⟨c1,c2⟩:=xiM hE d h;rw[c2,hfr]
    split
    ·exact⟨h,rfl⟩
    ·exact hb c1 hf
theorem xml {Rel:σ->τ->Prop}{SOk:QS->ByteArray->Prop}{E:Env σ}{E':Env τ}(hE:ER Rel SOk E E'):∀ d:Nat,xrC Rel (xa4 E d) (xa4 E' d)
 | 0=>xim hE 0 fun h _=>⟨h,rfl⟩
 | d+1=>xim hE (d+1) fun h hf=>xmT hE (xml hE d) d _ h hf
end
section
variable {σ:Type}
def xod (F:Int)(ent:Ent σ):Prop:=∀ m c n s a,m.sz_<=F->(ent m c n s a).1.sz_<=F/\0<=(ent m c n s a).1.sz_-m.sz_
theorem xkp (E:Env σ)(d:Nat){m:Mc σ}(h:m.sz_<=E.fuel):(xau E d m).1.sz_<=E.fuel/\0<=(xau E d m).1.sz_-m.sz_:=by
 unfold xau
 split
 ·simp only[];omega
 ·split
  ·simp only[];omega
  ·simp only[];omega
theorem xjF {E:Env σ}{ent:Ent σ}(he:xod E.fuel ent)(d:Nat){m:Mc σ}(h:m.sz_<=E.fuel)(f:Fr)(a:Int)(x:QI):(xaj ent E d m f a x).1.sz_<=E.fuel/\0<=(xaj ent E d m f a x).1.sz_-m.sz_:=by
 have self:m.sz_<=E.fuel/\0<=m.sz_-m.sz_:=⟨h,by omega⟩
 have jmp:∀ f a b,(xaV m f a b).1.sz_<=E.fuel/\0<=(xaV m f a b).1.sz_-m.sz_:=fun f a b=>by rw[xe9];exact self
 unfold xaj
 split
 ·exact self
 ·split
  ·exact self
  ·split
   ·exact self
   ·split
    ·exact self
    ·split
     ·exact self
     ·split
      ·rw[xhp];exact self
      ·split
       ·unfold xbD;simp only[]
        split
        ·exact he { m with st:=_ } _ _ _ _ h
        ·exact he { m with st:=_ } _ _ _ _ h
       ·split
        ·exact jmp _ _ _
        ·split
         ·rw[xhe];exact self
         ·unfold xbQ
          split
          ·exact self
          ·split
           ·exact self
           ·split
            ·exact self
            ·split
             ·exact self
             ·split
              ·exact xkp E d h
              ·exact self
theorem xpd {E:Env σ}{ent:Ent σ}(he:xod E.fuel ent)(d:Nat):∀ (g:Nat) {m:Mc σ} (f:Fr),m.sz_<=E.fuel->(xb7 ent E d g m f).1.sz_<=E.fuel/\0<=(xb7 ent E d g m f).1.sz_-m.sz_
 | 0,m,f,h=>⟨h,by show 0<=m.sz_-m.sz_;omega⟩
 | g+1,m,f,h=>by
  have self:m.sz_<=E.fuel/\0<=m.sz_-m.sz_:=⟨h,by omega⟩
  unfold xb7;generalize (if f.pc<0 then none else f.code[f.pc.toNat]?)=q
  cases q with
  | none=>exact self
  | some x=>
   simp only[]
   split
   ·exact self
   ·have h1:=xjF he d h { f with pc:=f.pc+1 } f.pc x
    split
    ·exact h1
    ·have h2:=xpd he d g (xaj ent E d m { f with pc:=f.pc+1 } f.pc x).2.1 h1.1
     exact⟨h2.1,by omega⟩
theorem xkq {E:Env σ}(d:Nat){body:Mc σ->Fr->Mc σ × QV × Int}(hb:∀ {m} f,m.sz_<=E.fuel->(body m f).1.sz_<=E.fuel/\0<=(body m f).1.sz_-m.sz_):xod E.fuel (xbc E d body):=by
 intro m c n s a h;have self:m.sz_<=E.fuel/\0<=m.sz_-m.sz_:=⟨h,by omega⟩
 unfold xbc
 cases xaI E.cz c n with
 | none=>exact self
 | some mt=>
  simp only[]
  split
  ·exact self
  ·split
   ·split
    ·exact self
    ·simp only[];omega
   ·split
    ·exact self
    ·have h1:=xkp E d h;have h2:=hb (xaK E c n mt s a) h1.1
     exact⟨h2.1,by omega⟩
theorem xnc (E:Env σ):∀ d:Nat,xod E.fuel (xa4 E d)
 | 0=>xkq 0 fun f h=>⟨h,by simp only[];omega⟩
 | d+1=>xkq (d+1) fun f h=>xpd (xnc E d) d _ f h
end
def xar (X:QW)(s:QV)(name:ByteArray)(args:List QV)(fuel:Int):Int:=
 if xbr name=false then 7 else if 4<args.length then 5 else if fuel<0\/400<fuel then 3 else if xax X.heap.length s≠0 then xax X.heap.length s else xbo (fun _ v=>xax X.heap.length v) 0 args
def xe1 (X:QW)(fuel:Int):Env Unit:=⟨X.cz,fuel,fun _ _ c name=>((),xaB X.cz c name),xgC⟩
def xlQ (X:QW)(s:QV)(name:ByteArray)(args:List QV)(fuel:Int):Mc Unit × QV × Int:=
 xa4 (xe1 X fuel) 20 ⟨X.heap,0,0,()⟩ (xaB X.cz (xas X.heap s) name).1 (xaB X.cz (xas X.heap s) name).2 s args
structure Ran where
 heap:List QO
 v:QV
 err:Int
 sz_:Int
def xdG (X:QW)(s:QV)(name:ByteArray)(args:List QV)(fuel:Int):Ran:=
 if xar X s name args fuel≠0 then ⟨X.heap,xaU,xar X s name args fuel,0⟩
 else if (xlQ X s name args fuel).2.2≠0 then ⟨X.heap,xaU,(xlQ X s name args fuel).2.2,(xlQ X s name args fuel).1.sz_⟩
 else ⟨(xlQ X s name args fuel).1.heap,(xlQ X s name args fuel).2.1,0,(xlQ X s name args fuel).1.sz_⟩
theorem xfn {X:QW}{s:QV}{name:ByteArray}{args:List QV}{fuel:Int}(h:xar X s name args fuel=0):(0<=fuel/\fuel<=400)/\xax X.heap.length s=0/\VsOk X.heap.length args:=by
 unfold xar at h
 split at h
 ·cases h
 ·split at h
  ·cases h
  ·split at h
   ·cases h
   ·split at h
    ·rename_i k;exact absurd h k
    ·rename_i k1 k2 k3 k4;refine⟨by omega,Decidable.of_not_not k4,fun v hv=>?_⟩
     obtain⟨i,hi,rfl⟩:=List.mem_iff_getElem.1 hv
     exact xbM h i _ (List.getElem?_eq_getElem hi)
theorem xjS {P:Nat->Prop}(xs:List QC)(cv:Value)(s:Int)(k:Nat)(x:QC)(bs bw:Nat)(w:World)(hne:bs≠bw)(hs:w.heap[bs]?=some (.cells #[.int .i64 s] 3 (0,0)))(hw:w.cell? ⟨bw,0,none⟩=some cv)(hh:xai P w cv xs)(hx:xs[k]?=some x) :
  Calls Tryz.prog 115 #[.int .i64 k,.pointer (some ⟨bs,0,none⟩),.pointer (some ⟨bw,0,none⟩)] w fun e w''=>e=.returned (.bool true)/\w''.heap[bs]?=some (.cells #[.int .i64 (xef s k x).1] 3 (0,0))/\Keeps (fun b=>b≠bs) w w''/\Below bs w w'':=by
 obtain⟨ad,cap,rfl,hl,hcap,hby,hrow⟩:=id hh;have hk:=xae hx;obtain⟨b,o,rfl,-,hv0,hv1,hv2,-⟩:=hrow k x hx;have hk0:(0:Int)<=(k:Int):=by omega
 have hk1:(k:Int)<(xs.length:Int):=by omega
 have c1:=cell_of_one hs;have f1:=free_of_one hs;have HV:Hid ((xef s k x).1=IntKind.i64.wrap (s+x.slots)):=rfl;generalize (xef s k x).1=u at *;have hwr:IntKind.i64.wrap (s+x.slots)=u:=HV.out.symm;clear hrow hh hx;go_enter Tryz.func115,Tryz.ntmps115;go_wp2
 go_region
 all_goals go_wp2
 all_goals go_ret
 all_goals
  refine⟨rfl,?_,?_,?_⟩
  ·first | exact one_setCell (by first | exact hs | simpa using hs) | (rw[HV.out];exact one_setCell (by first | exact hs | simpa using hs))
  ·exact Keeps.of_setCell (fun h=>h rfl) _
  ·first | exact xm1 _ _ _ _ | exact (xm1 _ _ _ _).drew
theorem xkX {P:Nat->Prop}(X:QW)(c:Int)(cv hv:Value)(w:World)(hh:xai P w cv X.cz)(hH:xaD P w hv X.heap):Calls Tryz.prog 111 #[WV cv hv X.ez,.int .i64 c] w fun e w'=>e=.returned (.int .i64 (xbe X.cz c))/\Below w.heap.size w w':=by
 have hm:=hmf;obtain⟨ad,cap,rfl,hl,hcap,hby,-⟩:=id hh;obtain⟨ah,ch,rfl,-,-,-,-⟩:=id hH;go_enter Tryz.func111,Tryz.ntmps111;go_wp2_with fail;refine (xnq (P:=P) (M:=fun b=>b=w.heap.size+1) xef (SlRW (P:=P) w (.slice ad X.cz.length cap) X.cz) _ _ X.cz c 0 _ _ _ _ (hh.later xaA (xbP _ _ _)) ⟨_,_,_,rfl⟩ ?_ ?_ ?_ ?_ ?_).mono ?_
 ·refine⟨xbP _ _ _,hh.later xaA (xbP _ _ _),?_,?_⟩
  ·have:=qzJ (w.alloc (Obj.cells #[Value.slice ad X.cz.length cap,Value.slice ah X.heap.length ch,Value.int .i64 X.ez] 25)) (Obj.cells #[Value.int .i64 0] 3)
   simpa using this
  ·exact qzA (xak _ _) (by rw[xaa _ _ _ _ rfl];rfl)
 ·rintro b rfl;simp
 ·exact fun j s w' h=>h.2.1
 ·rintro j s w' w'' ⟨h1,h2,h3,h4⟩ hb
  exact⟨xaf h1 hb,h2.later xaA hb,by rw[hb.block _ (xal h3)];exact h3,qzA hb h4⟩
 ·rintro j s k x w' hj ⟨h1,h2,h3,h4⟩ hx;refine (xjS X.cz _ s k x (w.heap.size+1) w.heap.size w' (by omega) h3 h4 h2 hx).mono ?_
  rintro e w'' ⟨rfl,k1,k2,k3⟩;refine⟨rfl,⟨h1.trans (k3.mono (by omega)),?_,k1,k2 _ _ _ (by show _≠_;omega) h4⟩,k2.mono fun b hb=>hb,k3.size⟩
  exact hh.later xaA (h1.trans (k3.mono (by omega)))
 ·rintro e w1 ⟨rfl,j,h1,h2,h3,h4⟩;have c1:=cell_of_one h3;go_wp2
  go_ret
  exact⟨rfl,h1⟩
theorem xnv (k n h:Int)(w:World):Calls Tryz.prog 55 #[.agg #[.int .i64 k,.int .i64 n],.int .i64 h] w fun e w'=>e=.returned (.int .i64 (xcu k n h))/\Below w.heap.size w w':=by
 go_enter Tryz.func55,Tryz.ntmps55;go_wp2
 all_goals
  go_ret
  refine⟨xan ?_,(qzL _ _).alloc (qzC _) _⟩
  go_light
  try simp only[beq_iff_eq,bne_iff_ne,ne_eq,beq_eq_false_iff_ne,bne_eq_false_iff_eq] at *
  unfold xcu
  (repeat' split)<;>omega
theorem xhs (v:QV)(h:Int)(w:World):Calls Tryz.prog 55 #[VV v,.int .i64 h] w fun e w'=>e=.returned (.int .i64 (xax h v))/\Below w.heap.size w w':=xnv v.k v.n h w
def xdJ (n:Nat)(v:QV):Bool:=decide (v.k=4/\0<=v.n/\v.n<n)
theorem xkB (a:Option Addr)(n c:Nat)(v:QV)(w:World):Calls Tryz.prog 76 #[.slice a n c,VV v] w fun e w'=>e=.returned (.bool (xdJ n v))/\Below w.heap.size w w':=by
 go_enter Tryz.func76,Tryz.ntmps76;go_wp2
 all_goals
  go_ret
  refine⟨xby ?_,xak _ _⟩
  go_light
  try simp only[beq_iff_eq,bne_iff_ne,ne_eq,beq_eq_false_iff_ne,bne_eq_false_iff_eq] at *
  unfold xdJ
  simp[*]
  try omega
theorem xgj {h:List QO}{v:QV}(hi:xdJ h.length v=true):∃ (j:Nat) (o:QO),v.n=(j:Int)/\j<h.length/\h[j]?=some o/\xd2 h v=some o:=by
 unfold xdJ at hi;simp only[decide_eq_true_eq] at hi;obtain⟨h1,h2,h3⟩:=hi;have hj:v.n.toNat<h.length:=by omega
 exact⟨v.n.toNat,h[v.n.toNat],by omega,hj,by simp[hj],by unfold xd2;rw[if_pos ⟨h1,h2⟩];simp[hj]⟩
theorem xeI {h:List QO}{v:QV}(hi:xdJ h.length v=false):xd2 h v=none:=by
 unfold xdJ at hi;simp only[decide_eq_false_iff_not] at hi;unfold xd2
 split
 ·rename_i k;exact List.getElem?_eq_none (by omega)
 ·rfl
theorem xe4 {P:Nat->Prop}(hs:List QO)(hv:Value)(v:QV)(w:World)(h:xaD P w hv hs):Calls Tryz.prog 59 #[hv,VV v] w fun e w'=>e=.returned (.int .i64 (xas hs v))/\Below w.heap.size w w':=by
 have hb1:=xak w (.cells #[.int .i64 v.k,.int .i64 v.n] 27);have h1:=h.later xaE hb1;have b0:(w.alloc (.cells #[.int .i64 v.k,.int .i64 v.n] 27)).cell? ⟨w.heap.size,0,none⟩=some (.int .i64 v.k):=xaa _ _ _ _ rfl 0;have b1:(w.alloc (.cells #[.int .i64 v.k,.int .i64 v.n] 27)).cell? ⟨w.heap.size,1,none⟩=some (.int .i64 v.n):=xaa _ _ _ _ rfl 1;obtain⟨a,cap,rfl,-,hcap,-,-⟩:=id h;unfold maxLen at hcap;clear h;go_enter Tryz.func59,Tryz.ntmps59
 go_upto_region 1 with (fail)
 generalize (w.alloc (.cells #[.int .i64 v.k,.int .i64 v.n] 27))=W at *
 by_cases h0:v.k=0
 ·have HE:Hid (xas hs v=1):=by show _=_;unfold xas;rw[if_pos h0]
  have h0':(v.k == 0)=true:=by simpa using h0
  go_wp2
  go_ret
  exact⟨xan HE.out.symm,hb1⟩
 have h0':(v.k == 0)=false:=by simpa using h0
 by_cases h12:v.k=1
 ·have HE:Hid (xas hs v=2):=by show _=_;unfold xas;rw[if_neg h0,if_pos (Or.inl h12)]
  have h12':(v.k == 1)=true:=by simpa using h12
  go_wp2
  go_ret
  exact⟨xan HE.out.symm,hb1⟩
 have h12':(v.k == 1)=false:=by simpa using h12
 by_cases h22:v.k=2
 ·have HE:Hid (xas hs v=2):=by show _=_;unfold xas;rw[if_neg h0,if_pos (Or.inr h22)]
  have h22':(v.k == 2)=true:=by simpa using h22
  go_wp2
  go_ret
  exact⟨xan HE.out.symm,hb1⟩
 have h22':(v.k == 2)=false:=by simpa using h22
 by_cases h3:v.k=3
 ·have HE:Hid (xas hs v=3):=by show _=_;unfold xas;rw[if_neg h0,if_neg (by omega),if_pos h3]
  have h3':(v.k == 3)=true:=by simpa using h3
  go_wp2
  go_ret
  exact⟨xan HE.out.symm,hb1⟩
 have h3':(v.k == 3)=false:=by simpa using h3
 have HE:Hid (xas hs v=((xd2 hs v).map QO.cls).getD 0):=by show _=_;unfold xas;rw[if_neg h0,if_neg (by omega),if_neg h3]
 clear h0 h12 h22 h3;go_wp2_with fail;refine (xkB a hs.length cap v _).mono ?_;rintro e w1 ⟨rfl,hb2⟩;have c1:=qzA hb2 b1;have h2:=h1.later xaE hb2
 cases hi:xdJ hs.length v with
 | false=>
  have HN:=hid (xeI hi);go_wp2
  go_ret
  exact⟨xan (by rw[HE.out,HN.out];rfl),xaf hb1 hb2⟩
 | true=>
  obtain⟨j,o,hj,hjl,hjo,hob⟩:=xgj hi;have HN:=hid hob;rw[hj] at c1;obtain⟨a',cap',e,-,-,-,hrow⟩:=h2
  cases e
  obtain⟨b,of,rfl,-,e0,-⟩:=hrow j o hjo;simp only[Nat.add_zero] at e0;have hj1:(j:Int)<(hs.length:Int):=by omega
  have hj0:(0:Int)<=(j:Int):=by omega
  clear hj hjo hob hrow;go_wp2
  go_ret
  exact⟨xan (by rw[HE.out,HN.out];rfl),xaf hb1 hb2⟩
theorem xiJ {P:Nat->Prop}(hs:List QO)(hv:Value)(v:QV)(n:Int)(w:World)(h:xaD P w hv hs):Calls Tryz.prog 109 #[hv,VV v,.int .i64 n] w fun e w'=>e=.returned (VV (xcF hs v n))/\Below w.heap.size w w':=by
 have hb1:=xbP w (.cells #[.int .i64 v.k,.int .i64 v.n] 27) (.cells #[.int .i64 0,.int .i64 0] 27);have h1:=h.later xaE hb1;have b0:((w.alloc (.cells #[.int .i64 v.k,.int .i64 v.n] 27)).alloc (.cells #[.int .i64 0,.int .i64 0] 27)).cell? ⟨w.heap.size,0,none⟩=some (.int .i64 v.k):=qzA (xak _ _) (xaa _ _ _ _ rfl 0);have b1:((w.alloc (.cells #[.int .i64 v.k,.int .i64 v.n] 27)).alloc (.cells #[.int .i64 0,.int .i64 0] 27)).cell? ⟨w.heap.size,1,none⟩=some (.int .i64 v.n):=qzA (xak _ _) (xaa _ _ _ _ rfl 1);have r0:((w.alloc (.cells #[.int .i64 v.k,.int .i64 v.n] 27)).alloc (.cells #[.int .i64 0,.int .i64 0] 27)).cell? ⟨w.heap.size+1,0,none⟩=some (.int .i64 0):=xaa _ _ _ _ (by simp) 0
 have r1:((w.alloc (.cells #[.int .i64 v.k,.int .i64 v.n] 27)).alloc (.cells #[.int .i64 0,.int .i64 0] 27)).cell? ⟨w.heap.size+1,1,none⟩=some (.int .i64 0):=xaa _ _ _ _ (by simp) 1
 have rf:∀ o,((w.alloc (.cells #[.int .i64 v.k,.int .i64 v.n] 27)).alloc (.cells #[.int .i64 0,.int .i64 0] 27)).frozen? ⟨w.heap.size+1,o,none⟩=false:=fun o=>xap (cur:=#[.int .i64 0,.int .i64 0]) (t:=27) (by have:=qzJ (w.alloc (.cells #[.int .i64 v.k,.int .i64 v.n] 27)) (.cells #[.int .i64 0,.int .i64 0] 27);simpa using this) o
 have hz:((w.alloc (.cells #[.int .i64 v.k,.int .i64 v.n] 27)).alloc (.cells #[.int .i64 0,.int .i64 0] 27)).heap.size=w.heap.size+2:=by simp
 obtain⟨a,cap,rfl,-,hcap,-,-⟩:=id h;unfold maxLen at hcap;clear h;go_enter Tryz.func109,Tryz.ntmps109
 go_upto_region 1 with (fail)
 generalize ((w.alloc (.cells #[.int .i64 v.k,.int .i64 v.n] 27)).alloc (.cells #[.int .i64 0,.int .i64 0] 27))=W at *;go_wp2_with fail;refine (xkB a hs.length cap v _).mono ?_;rintro e w1 ⟨rfl,hb2⟩;have c1:=qzA hb2 b1;have h2:=h1.later xaE hb2;have s0:=qzA hb2 r0;have s1:=qzA hb2 r1;have sf:∀ o,w1.frozen? ⟨w.heap.size+1,o,none⟩=false:=fun o=>(hb2.frozen (p:=⟨w.heap.size+1,o,none⟩) (by simp only[hz];omega)).trans (rf o)
 have HB:=hid (xaf hb1 hb2);clear hz b0 b1 r0 r1 rf hb1 hb2 h1
 cases hi:xdJ hs.length v with
 | false=>
  have HN:=hid (xeI hi);go_wp2;refine qzK (v:=VV xaU) ?_ rfl ⟨by unfold xcF;rw[HN.out];rfl,(HB.out.setCell (by simp) _).setCell (by simp) _⟩
  simp[results,Tryz.results109,go_sem,s0,s1]
 | true=>
  obtain⟨j,o,hj,hjl,hjo,hob⟩:=xgj hi;have HN:Hid (xcF hs v n=xaM o.slots n):=by show _=_;unfold xcF;rw[hob];rfl
  rw[hj] at c1;obtain⟨a',cap',e,-,-,-,hrow⟩:=h2
  cases e
  obtain⟨b,of,rfl,-,e0,sv,e1,hsl⟩:=hrow j o hjo;obtain⟨a2,c2,rfl,-,hcap2,-,hrow2⟩:=hsl;unfold maxLen at hcap2;have hj1:(j:Int)<(hs.length:Int):=by omega
  have hj0:(0:Int)<=(j:Int):=by omega
  clear hj hjo hob hrow hi
  by_cases hn:n<0
  ·have HX:Hid (xaM o.slots n=xaU):=by show _=_;unfold xaM;rw[if_pos hn]
   have hn':decide (n<0)=true:=by simpa using hn
   go_wp2;refine qzK (v:=VV xaU) ?_ rfl ⟨by rw[HN.out,HX.out],(HB.out.setCell (by simp) _).setCell (by simp) _⟩
   simp[results,Tryz.results109,go_sem,s0,s1]
  ·have hn':decide (n<0)=false:=by simpa using hn
   obtain⟨k,rfl⟩:∃ k:Nat,n=k:=⟨n.toNat,by omega⟩
   by_cases hk:k<o.slots.length
   ·have hx:o.slots[k]?=some o.slots[k]:=by simp[hk]
    have HX:Hid (xaM o.slots k=o.slots[k]):=by show _=_;unfold xaM;rw[if_neg hn];simp[hk]
    generalize o.slots[k]=x at *;obtain⟨b3,o3,rfl,-,x0,x1⟩:=hrow2 k x hx;simp only[Nat.add_zero] at x0;have hk1:(k:Int)<(o.slots.length:Int):=by omega
    have hk2:¬ ((o.slots.length:Int)<=(k:Int)):=by omega
    go_wp2;refine qzK (v:=VV x) ?_ rfl ⟨by rw[HN.out,HX.out],(HB.out.setCell (by simp) _).setCell (by simp) _⟩
    simp[results,Tryz.results109,go_sem,s0,s1]
   ·have HX:Hid (xaM o.slots k=xaU):=by show _=_;unfold xaM;rw[if_neg hn];simp[hk]
    have hk2:((o.slots.length:Int)<=(k:Int)):=by omega
    go_wp2;refine qzK (v:=VV xaU) ?_ rfl ⟨by rw[HN.out,HX.out],(HB.out.setCell (by simp) _).setCell (by simp) _⟩
    simp[results,Tryz.results109,go_sem,s0,s1]
theorem xde (b:Bool)(w:World):Calls Tryz.prog 98 #[.bool b] w fun e w'=>e=.returned (VV ⟨if b then 2 else 1,0⟩)/\Below w.heap.size w w':=by
 cases b
 ·go_enter Tryz.func98,Tryz.ntmps98;go_wp2;refine qzK (v:=VV ⟨1,0⟩) ?_ rfl ⟨rfl,xak _ _⟩
  simp[results,Tryz.results98,go_sem]
 ·go_enter Tryz.func98,Tryz.ntmps98;go_wp2;refine qzK (v:=VV ⟨2,0⟩) ?_ rfl ⟨rfl,xak _ _⟩
  simp[results,Tryz.results98,go_sem]
theorem xed (n:Int)(w:World)(h:-2000000000000000000<=n/\n<=2000000000000000000):Calls Tryz.prog 97 #[.int .i64 n] w fun e w'=>e=.returned (VV ⟨3,n.tmod 1073741825⟩)/\Below w.heap.size w w':=by
 go_enter Tryz.func97,Tryz.ntmps97;go_wp2;refine qzK (v:=VV ⟨3,n.tmod 1073741825⟩) ?_ rfl ⟨rfl,xak _ _⟩
 simp[results,Tryz.results97,go_sem]
theorem xmL {a b:Int}(ha:-1073741824<=a/\a<=1073741824)(hb:-1073741824<=b/\b<=1073741824):-2000000000000000000<=a*b/\a*b<=2000000000000000000:=by
 have h1:a.natAbs<=1073741824:=by omega
 have h2:b.natAbs<=1073741824:=by omega
 have h3:(a*b).natAbs<=1073741824*1073741824:=by rw[Int.natAbs_mul];exact Nat.mul_le_mul h1 h2
 omega
structure PmR (w:World)(a b:QV)(w':World):Prop where
 bel:Below w.heap.size w w'
 a0:w'.cell? ⟨w.heap.size,0,none⟩=some (.int .i64 a.k)
 a1:w'.cell? ⟨w.heap.size,1,none⟩=some (.int .i64 a.n)
 b0:w'.cell? ⟨w.heap.size+1,0,none⟩=some (.int .i64 b.k)
 b1:w'.cell? ⟨w.heap.size+1,1,none⟩=some (.int .i64 b.n)
 r0:w'.cell? ⟨w.heap.size+2,0,none⟩=some (.int .i64 0)
 r1:w'.cell? ⟨w.heap.size+2,1,none⟩=some (.int .i64 0)
 rf:∀ o,w'.frozen? ⟨w.heap.size+2,o,none⟩=false
 sz:w.heap.size+3<=w'.heap.size
theorem PmR.later {w:World}{a b:QV}{w' w'':World}(h:PmR w a b w')(hb:Below w'.heap.size w' w''):PmR w a b w'':=
 ⟨xaf h.bel hb,qzA hb h.a0,qzA hb h.a1,qzA hb h.b0,qzA hb h.b1,qzA hb h.r0,qzA hb h.r1,fun o=>(hb.frozen (p:=⟨w.heap.size+2,o,none⟩) (by have:=h.sz;simp only;omega)).trans (h.rf o),qzD h.sz hb.size⟩
theorem xm5 (w:World)(a b:QV):PmR w a b (((w.alloc (.cells #[.int .i64 a.k,.int .i64 a.n] 27)).alloc (.cells #[.int .i64 b.k,.int .i64 b.n] 27)).alloc (.cells #[.int .i64 0,.int .i64 0] 27)):=by
 refine⟨xfL _ _ _ _,qzA (xbP _ _ _) (xaa _ _ _ _ rfl 0),qzA (xbP _ _ _) (xaa _ _ _ _ rfl 1),qzA (xak _ _) (xaa _ _ _ _ (by simp) 0),qzA (xak _ _) (xaa _ _ _ _ (by simp) 1),xaa _ _ _ _ (by simp) 0,xaa _ _ _ _ (by simp) 1,fun o=>xap (cur:=#[.int .i64 0,.int .i64 0]) (t:=27) ?_ o,by simp⟩
 have:=qzJ ((w.alloc (.cells #[.int .i64 a.k,.int .i64 a.n] 27)).alloc (.cells #[.int .i64 b.k,.int .i64 b.n] 27)) (.cells #[.int .i64 0,.int .i64 0] 27)
 simpa using this
theorem xoG (p:Int)(a b:QV)(w:World)(ha:a.k=3->-1073741824<=a.n/\a.n<=1073741824)(hb:b.k=3->-1073741824<=b.n/\b.n<=1073741824):Calls Tryz.prog 91 #[.int .i64 p,VV a,VV b] w fun e w'=>e=.returned (.tuple #[VV (xbR p a b).1,.int .i64 (xbR p a b).2])/\Below w.heap.size w w':=by
 have hR:=xm5 w a b;go_enter Tryz.func91,Tryz.ntmps91
 go_upto_region 1 with (fail)
 generalize (((w.alloc (.cells #[.int .i64 a.k,.int .i64 a.n] 27)).alloc (.cells #[.int .i64 b.k,.int .i64 b.n] 27)).alloc (.cells #[.int .i64 0,.int .i64 0] 27))=W at *;obtain⟨-,a0,a1,b0,b1,r0,r1,rf,sz⟩:=id hR;simp only[Nat.add_assoc,Nat.reduceAdd] at *
 by_cases hk:a.k=3/\b.k=3
 ·have hab:=And.intro (ha hk.1) (hb hk.2);have ak:(a.k == 3)=true:=by simpa using hk.1
  have bk:(b.k == 3)=true:=by simpa using hk.2
  have ak':(a.k != 3)=false:=by simpa using hk.1
  have bk':(b.k != 3)=false:=by simpa using hk.2
  have hP:xbR p a b=if p=1 then (⟨3,(a.n+b.n).tmod 1073741825⟩,0) else if p=2 then (⟨3,(a.n-b.n).tmod 1073741825⟩,0) else if p=3 then (⟨3,(a.n*b.n).tmod 1073741825⟩,0) else if p=4 then (⟨if a.n<b.n then 2 else 1,0⟩,0) else if p=5 then (⟨if a.n=b.n then 2 else 1,0⟩,0) else (xaU,1):=by unfold xbR;rw[if_neg (by omega)]
  have wadd:IntKind.i64.wrap (a.n+b.n)=a.n+b.n:=xat (by omega) (by omega)
  have wsub:IntKind.i64.wrap (a.n-b.n)=a.n-b.n:=xat (by omega) (by omega)
  have hm:=xmL hab.1 hab.2;have wmul:IntKind.i64.wrap (a.n*b.n)=a.n*b.n:=xat (by omega) (by omega)
  have hA:=hid hab;have hM:=hid hm;clear hab hm ha hb hk
  by_cases hp1:p=1
  ·have hV:Hid (xbR p a b=(⟨3,(a.n+b.n).tmod 1073741825⟩,0)):=by show _=_;rw[hP];rw[if_pos hp1]
   have hq1:(p == 1)=true:=by simpa using hp1
   clear hP;go_wp2_with fail;refine (xed (a.n+b.n) _ (by have:=hA.out;omega)).mono ?_
   rintro e w1 ⟨rfl,hb1⟩;have hR1:=hR.later hb1;clear a0 a1 b0 b1 r0 r1 rf hR;obtain⟨-,a0,a1,b0,b1,r0,r1,rf,-⟩:=id hR1;go_wp2;refine qzK (v:=.tuple #[VV ⟨3,(a.n+b.n).tmod 1073741825⟩,.int .i64 0]) ?_ rfl ⟨by rw[hV.out],(hR1.bel.setCell (by simp) _).setCell (by simp) _⟩
   simp[results,Tryz.results91,go_sem,r0,r1]
  have hq1:(p == 1)=false:=by simpa using hp1
  by_cases hp2:p=2
  ·have hV:Hid (xbR p a b=(⟨3,(a.n-b.n).tmod 1073741825⟩,0)):=by show _=_;rw[hP];rw[if_neg hp1];rw[if_pos hp2]
   have hq2:(p == 2)=true:=by simpa using hp2
   clear hP;go_wp2_with fail;refine (xed (a.n-b.n) _ (by have:=hA.out;omega)).mono ?_
   rintro e w1 ⟨rfl,hb1⟩;have hR1:=hR.later hb1;clear a0 a1 b0 b1 r0 r1 rf hR;obtain⟨-,a0,a1,b0,b1,r0,r1,rf,-⟩:=id hR1;go_wp2;refine qzK (v:=.tuple #[VV ⟨3,(a.n-b.n).tmod 1073741825⟩,.int .i64 0]) ?_ rfl ⟨by rw[hV.out],(hR1.bel.setCell (by simp) _).setCell (by simp) _⟩
   simp[results,Tryz.results91,go_sem,r0,r1]
  have hq2:(p == 2)=false:=by simpa using hp2
  by_cases hp3:p=3
  ·have hV:Hid (xbR p a b=(⟨3,(a.n*b.n).tmod 1073741825⟩,0)):=by show _=_;rw[hP];rw[if_neg hp1];rw[if_neg hp2];rw[if_pos hp3]
   have hq3:(p == 3)=true:=by simpa using hp3
   clear hP;go_wp2_with fail;refine (xed (a.n*b.n) _ hM.out).mono ?_;rintro e w1 ⟨rfl,hb1⟩;have hR1:=hR.later hb1;clear a0 a1 b0 b1 r0 r1 rf hR;obtain⟨-,a0,a1,b0,b1,r0,r1,rf,-⟩:=id hR1;go_wp2;refine qzK (v:=.tuple #[VV ⟨3,(a.n*b.n).tmod 1073741825⟩,.int .i64 0]) ?_ rfl ⟨by rw[hV.out],(hR1.bel.setCell (by simp) _).setCell (by simp) _⟩
   simp[results,Tryz.results91,go_sem,r0,r1]
  have hq3:(p == 3)=false:=by simpa using hp3
  by_cases hp4:p=4
  ·have hq4:(p == 4)=true:=by simpa using hp4
   by_cases hc:a.n<b.n
   ·have hV:Hid (xbR p a b=(⟨2,0⟩,0)):=by show _=_;rw[hP];rw[if_neg hp1];rw[if_neg hp2];rw[if_neg hp3];rw[if_pos hp4,if_pos hc]
    have hd:decide (a.n<b.n)=true:=by simpa using hc
    clear hP hp4 hc;go_wp2_with fail;refine (xde true _).mono ?_;rintro e w1 ⟨rfl,hb1⟩;have hR1:=hR.later hb1;clear a0 a1 b0 b1 r0 r1 rf hR;obtain⟨-,a0,a1,b0,b1,r0,r1,rf,-⟩:=id hR1;go_wp2;refine qzK (v:=.tuple #[VV ⟨2,0⟩,.int .i64 0]) ?_ rfl ⟨by rw[hV.out],(hR1.bel.setCell (by simp) _).setCell (by simp) _⟩
    simp[results,Tryz.results91,go_sem,r0,r1]
   ·have hV:Hid (xbR p a b=(⟨1,0⟩,0)):=by show _=_;rw[hP];rw[if_neg hp1];rw[if_neg hp2];rw[if_neg hp3];rw[if_pos hp4,if_neg hc]
    have hd:decide (a.n<b.n)=false:=by simpa using hc
    clear hP hp4 hc;go_wp2_with fail;refine (xde false _).mono ?_;rintro e w1 ⟨rfl,hb1⟩;have hR1:=hR.later hb1;clear a0 a1 b0 b1 r0 r1 rf hR;obtain⟨-,a0,a1,b0,b1,r0,r1,rf,-⟩:=id hR1;go_wp2;refine qzK (v:=.tuple #[VV ⟨1,0⟩,.int .i64 0]) ?_ rfl ⟨by rw[hV.out],(hR1.bel.setCell (by simp) _).setCell (by simp) _⟩
    simp[results,Tryz.results91,go_sem,r0,r1]
  have hq4:(p == 4)=false:=by simpa using hp4
  by_cases hp5:p=5
  ·have hq5:(p == 5)=true:=by simpa using hp5
   by_cases hc:a.n=b.n
   ·have hV:Hid (xbR p a b=(⟨2,0⟩,0)):=by show _=_;rw[hP];rw[if_neg hp1];rw[if_neg hp2];rw[if_neg hp3];rw[if_neg hp4];rw[if_pos hp5,if_pos hc]
    have hd:(a.n == b.n)=true:=by simpa using hc
    clear hP hp5 hc;go_wp2_with fail;refine (xde true _).mono ?_;rintro e w1 ⟨rfl,hb1⟩;have hR1:=hR.later hb1;clear a0 a1 b0 b1 r0 r1 rf hR;obtain⟨-,a0,a1,b0,b1,r0,r1,rf,-⟩:=id hR1;go_wp2;refine qzK (v:=.tuple #[VV ⟨2,0⟩,.int .i64 0]) ?_ rfl ⟨by rw[hV.out],(hR1.bel.setCell (by simp) _).setCell (by simp) _⟩
    simp[results,Tryz.results91,go_sem,r0,r1]
   ·have hV:Hid (xbR p a b=(⟨1,0⟩,0)):=by show _=_;rw[hP];rw[if_neg hp1];rw[if_neg hp2];rw[if_neg hp3];rw[if_neg hp4];rw[if_pos hp5,if_neg hc]
    have hd:(a.n == b.n)=false:=by simpa using hc
    clear hP hp5 hc;go_wp2_with fail;refine (xde false _).mono ?_;rintro e w1 ⟨rfl,hb1⟩;have hR1:=hR.later hb1;clear a0 a1 b0 b1 r0 r1 rf hR;obtain⟨-,a0,a1,b0,b1,r0,r1,rf,-⟩:=id hR1;go_wp2;refine qzK (v:=.tuple #[VV ⟨1,0⟩,.int .i64 0]) ?_ rfl ⟨by rw[hV.out],(hR1.bel.setCell (by simp) _).setCell (by simp) _⟩
    simp[results,Tryz.results91,go_sem,r0,r1]
  have hq5:(p == 5)=false:=by simpa using hp5
  have hV:Hid (xbR p a b=(xaU,1)):=by show _=_;rw[hP];rw[if_neg hp1];rw[if_neg hp2];rw[if_neg hp3];rw[if_neg hp4];rw[if_neg hp5]
  clear hP;go_wp2;refine qzK (v:=.tuple #[VV xaU,.int .i64 1]) ?_ rfl ⟨by rw[hV.out],(hR.bel.setCell (by simp) _).setCell (by simp) _⟩
  simp[results,Tryz.results91,go_sem,r0,r1]
 ·have hN:Hid (xbR p a b=(xaU,12)):=by show _=_;unfold xbR;rw[if_pos (by omega)]
  by_cases ak:a.k=3
  ·have ak':(a.k != 3)=false:=by simpa using ak
   have bk':(b.k != 3)=true:=by simpa using fun h=>hk ⟨ak,h⟩
   clear ak hk ha hb;go_wp2;refine qzK (v:=.tuple #[VV xaU,.int .i64 12]) ?_ rfl ⟨by rw[hN.out],(hR.bel.setCell (by simp) _).setCell (by simp) _⟩
   simp[results,Tryz.results91,go_sem,r0,r1]
  ·have ak':(a.k != 3)=true:=by simpa using ak
   clear ak hk ha hb;go_wp2;refine qzK (v:=.tuple #[VV xaU,.int .i64 12]) ?_ rfl ⟨by rw[hN.out],(hR.bel.setCell (by simp) _).setCell (by simp) _⟩
   simp[results,Tryz.results91,go_sem,r0,r1]
structure Mp (σ:Type) where
 E:Env σ
 cv:Value
 ep:Int
 lv:Value
 qv:Value
section
variable {σ:Type}
abbrev MB (p:Mp σ)(m:Mc σ)(calls:Int)(hv:Value):Obj:=.cells #[p.cv,hv,.int .i64 p.ep,.int .i64 p.E.fuel,.int .i64 m.sz_,.int .i64 calls,.int .i64 m.tz,p.lv,p.qv] 105 (0,0)
structure MacAt (p:Mp σ)(T:Nat->Nat)(w:World)(mb:Nat)(m:Mc σ)(calls:Int)(hv:Value)(g:Nat)(s:Nat->Nat):Prop where
 box:w.heap[mb]?=some (MB p m calls hv)
 tag:T mb=1
 heap:HeapSt T w hv g s m.heap
 cls:xai (Fx T w) w p.cv p.E.cz
variable {p:Mp σ} {T T':Nat->Nat} {w w':World} {mb:Nat} {m m':Mc σ} {calls calls':Int} {hv:Value} {g:Nat} {s:Nat->Nat}
theorem MacAt.keep {S:Nat->Prop}(h:MacAt p T w mb m calls hv g s)(e:Ext T T' w)(k:Kp S T w w')(h0:¬ S 0)(h1:¬ S 1)(h2:¬ S 2):MacAt p T' w' mb m calls hv g s:=
 ⟨k.held h.box (by rw[h.tag];exact h1),by rw[e _ (xal h.box)];exact h.tag,h.heap.keep e k h2,h.cls.fx xaA e k h0⟩
theorem MacAt.later (h:MacAt p T w mb m calls hv g s)(hb:Below w.heap.size w w'):MacAt p T w' mb m calls hv g s:=h.keep (S:=fun _=>False) (.refl _ _) (.of_below hb) id id id
theorem MacAt.turn (h:MacAt p T w mb m calls hv g s)(k:Kp (fun t=>t=1) T w w')(hb:w'.heap[mb]?=some (MB p m' calls' hv))(e:m'.heap=m.heap):MacAt p T w' mb m' calls' hv g s:=
 ⟨hb,h.tag,by rw[e];exact h.heap.keep (.refl _ _) k (by omega),h.cls.fx xaA (.refl _ _) k (by omega)⟩
theorem MacAt.c0 (h:MacAt p T w mb m calls hv g s):w.cell? ⟨mb,0,none⟩=some p.cv:=by rw[qzB h.box];rfl
theorem MacAt.c1 (h:MacAt p T w mb m calls hv g s):w.cell? ⟨mb,1,none⟩=some hv:=by rw[qzB h.box];rfl
theorem MacAt.c2 (h:MacAt p T w mb m calls hv g s):w.cell? ⟨mb,2,none⟩=some (.int .i64 p.ep):=by rw[qzB h.box];rfl
theorem MacAt.c3 (h:MacAt p T w mb m calls hv g s):w.cell? ⟨mb,3,none⟩=some (.int .i64 p.E.fuel):=by rw[qzB h.box];rfl
theorem MacAt.c4 (h:MacAt p T w mb m calls hv g s):w.cell? ⟨mb,4,none⟩=some (.int .i64 m.sz_):=by rw[qzB h.box];rfl
theorem MacAt.c5 (h:MacAt p T w mb m calls hv g s):w.cell? ⟨mb,5,none⟩=some (.int .i64 calls):=by rw[qzB h.box];rfl
theorem MacAt.c6 (h:MacAt p T w mb m calls hv g s):w.cell? ⟨mb,6,none⟩=some (.int .i64 m.tz):=by rw[qzB h.box];rfl
theorem MacAt.c7 (h:MacAt p T w mb m calls hv g s):w.cell? ⟨mb,7,none⟩=some p.lv:=by rw[qzB h.box];rfl
theorem MacAt.c8 (h:MacAt p T w mb m calls hv g s):w.cell? ⟨mb,8,none⟩=some p.qv:=by rw[qzB h.box];rfl
theorem xm0 (h:w.heap[mb]?=some (MB p m calls hv))(n:Int):(w.setCell ⟨mb,4,none⟩ (.int .i64 n)).heap[mb]?=some (MB p { m with sz_:=n } calls hv):=by rw[xag h];rfl
theorem xm6 (h:w.heap[mb]?=some (MB p m calls hv))(n:Int):(w.setCell ⟨mb,5,none⟩ (.int .i64 n)).heap[mb]?=some (MB p m n hv):=by rw[xag h];rfl
theorem xpw (h:w.heap[mb]?=some (MB p m calls hv))(n:Int):(w.setCell ⟨mb,6,none⟩ (.int .i64 n)).heap[mb]?=some (MB p { m with tz:=n } calls hv):=by rw[xag h];rfl
theorem xj3 (h:w.heap[mb]?=some (MB p m calls hv))(xs:List QO)(hv':Value):(w.setCell ⟨mb,1,none⟩ hv').heap[mb]?=some (MB p { m with heap:=xs } calls hv'):=by rw[xag h];rfl
theorem xh3 (h:MacAt p T w mb m calls hv g s)(h0:0<=m.sz_)(h1:p.E.fuel<=9000000000000000000):Calls Tryz.prog 90 #[.pointer (some ⟨mb,0,none⟩)] w fun e w'=>e=.returned (.int .i64 (if p.E.fuel<=m.sz_ then 13 else 0))/\MacAt p T w' mb (if p.E.fuel<=m.sz_ then m else { m with sz_:=m.sz_+1 }) calls hv g s/\Kp (fun t=>t=1) T w w':=by
 have c3:=h.c3;have c4:=h.c4;have cf:=xap h.box;have H:=hid h;clear h
 by_cases hf:p.E.fuel<=m.sz_
 ·rw[if_pos hf,if_pos hf];have hd:decide (p.E.fuel<=m.sz_)=true:=by simpa using hf
  go_enter Tryz.func90,Tryz.ntmps90;go_wp2
  go_region
  go_wp2
  go_ret
  exact⟨rfl,H.out.later (qzL _ _).drew,(Kp.refl _ _ _).drew⟩
 ·rw[if_neg hf,if_neg hf];have hd:decide (p.E.fuel<=m.sz_)=false:=by simpa using hf
  have hw:IntKind.i64.wrap (m.sz_+1)=m.sz_+1:=xat (by omega) (by omega)
  go_enter Tryz.func90,Tryz.ntmps90;go_wp2
  go_region
  go_wp2
  go_ret
  have k:Kp (fun t=>t=1) T w (w.setCell ⟨mb,4,none⟩ (.int .i64 (m.sz_+1))).drew:=((Kp.refl _ _ _).set (fun _=>H.out.tag) _ _).drew
  exact⟨rfl,H.out.turn k (xm0 H.out.box _) rfl,k⟩
theorem xeO (d:Nat)(h:MacAt p T w mb m calls hv g s)(h0:0<=m.sz_)(h1:p.E.fuel<=9000000000000000000)(hc:calls=20-(d:Int))(hd:d<=20):Calls Tryz.prog 79 #[.pointer (some ⟨mb,0,none⟩)] w fun e w'=>e=.returned (.int .i64 (xau p.E d m).2)/\MacAt p T w' mb (xau p.E d m).1 calls hv g s/\Kp (fun t=>t=1) T w w':=by
 have c3:=h.c3;have c4:=h.c4;have c5:=h.c5;have cf:=xap h.box;have H:=hid h;clear h
 by_cases hf:p.E.fuel<=m.sz_
 ·have HE:Hid (xau p.E d m=(m,13)):=by show _=_;unfold xau;rw[if_pos hf]
  have hd:decide (p.E.fuel<=m.sz_)=true:=by simpa using hf
  go_enter Tryz.func79,Tryz.ntmps79;go_wp2
  go_region
  go_wp2
  go_ret
  rw[HE.out]
  exact⟨rfl,H.out.later (qzL _ _).drew,(Kp.refl _ _ _).drew⟩
 ·have hd1:decide (p.E.fuel<=m.sz_)=false:=by simpa using hf
  by_cases hz:d=0
  ·have HE:Hid (xau p.E d m=(m,14)):=by show _=_;unfold xau;rw[if_neg hf,if_pos hz]
   have hd2:decide (20<=calls)=true:=by simp;omega
   clear hc hz;go_enter Tryz.func79,Tryz.ntmps79;go_wp2
   go_region
   go_wp2
   go_ret
   rw[HE.out]
   exact⟨rfl,H.out.later (qzL _ _).drew,(Kp.refl _ _ _).drew⟩
  ·have HE:Hid (xau p.E d m=({ m with sz_:=m.sz_+1 },0)):=by show _=_;unfold xau;rw[if_neg hf,if_neg hz]
   have hd2:decide (20<=calls)=false:=by simp;omega
   have hw:IntKind.i64.wrap (m.sz_+1)=m.sz_+1:=xat (by omega) (by omega)
   clear hc hz;go_enter Tryz.func79,Tryz.ntmps79;go_wp2
   go_region
   go_wp2
   go_ret
   rw[HE.out];have k:Kp (fun t=>t=1) T w (w.setCell ⟨mb,4,none⟩ (.int .i64 (m.sz_+1))).drew:=((Kp.refl _ _ _).set (fun _=>H.out.tag) _ _).drew
   exact⟨rfl,H.out.turn k (xm0 H.out.box _) rfl,k⟩
theorem xoM (h:MacAt p T w mb m calls hv g s)(c n:Int):Calls Tryz.prog 77 #[.pointer (some ⟨mb,0,none⟩),.int .i64 c,.int .i64 n] w fun e w'=>e=.returned (.bool (xaI p.E.cz c n).isSome)/\Below w.heap.size w w':=by
 have c0:=h.c0;obtain⟨a,cap,hcv,hl,hcap,-,hrow⟩:=h.cls;rw[hcv] at c0;unfold maxLen at hcap;clear h
 by_cases h0:c<0
 ·have HE:Hid ((xaI p.E.cz c n).isSome=false):=by show _=_;unfold xaI xbx;rw[if_neg (by omega)];rfl
  have hd:decide (0<=c)=false:=by simpa using h0
  go_enter Tryz.func77,Tryz.ntmps77;go_wp2
  go_ret
  exact⟨xby HE.out.symm,qzL _ _⟩
 ·obtain⟨k,rfl⟩:∃ k:Nat,c=k:=⟨c.toNat,by omega⟩
  have hd:decide (0<=(k:Int))=true:=by simp
  by_cases hk:k<p.E.cz.length
  ·have hk1:(k:Int)<(p.E.cz.length:Int):=by omega
   have hx:p.E.cz[k]?=some p.E.cz[k]:=by simp[hk]
   have HM:Hid (xaI p.E.cz (k:Int) n=if 0<=n then p.E.cz[k].mz[n.toNat]? else none):=by show _=_;unfold xaI xbx;simp[hk]
   generalize p.E.cz[k]=x at *
   by_cases hn:n<0
   ·have HE:Hid ((xaI p.E.cz (k:Int) n).isSome=false):=by show _=_;rw[HM.out,if_neg (by omega)];rfl
    have hn':decide (0<=n)=false:=by simpa using hn
    go_enter Tryz.func77,Tryz.ntmps77;go_wp2
    go_ret
    exact⟨xby HE.out.symm,qzL _ _⟩
   ·obtain⟨j,rfl⟩:∃ j:Nat,n=j:=⟨n.toNat,by omega⟩
    have hn':decide (0<=(j:Int))=true:=by simp
    obtain⟨b,o,rfl,-,e0,e1,e2,e3,mv,e4,hm⟩:=hrow k x hx;obtain⟨a2,cap2,rfl,-,-,-,-⟩:=hm
    have HE:Hid ((xaI p.E.cz (k:Int) (j:Int)).isSome=decide (j<x.mz.length)):=by
     show _=_
     rw[HM.out,if_pos (by omega)]
     by_cases hj:j<x.mz.length<;>simp[hj]
    clear hrow hx HM
    by_cases hj:j<x.mz.length
    ·have hj1:(j:Int)<(x.mz.length:Int):=by omega
     go_enter Tryz.func77,Tryz.ntmps77;go_wp2
     go_ret
     exact⟨xby (by rw[HE.out];simp[hj]),qzL _ _⟩
    ·have hj1:(x.mz.length:Int)<=(j:Int):=by omega
     go_enter Tryz.func77,Tryz.ntmps77;go_wp2
     go_ret
     exact⟨xby (by rw[HE.out];simp[hj]),qzL _ _⟩
  ·have HE:Hid ((xaI p.E.cz (k:Int) n).isSome=false):=by show _=_;unfold xaI xbx;simp[hk]
   have hk1:(p.E.cz.length:Int)<=(k:Int):=by omega
   go_enter Tryz.func77,Tryz.ntmps77;go_wp2
   go_ret
   exact⟨xby HE.out.symm,qzL _ _⟩
end
section
variable {σ:Type} {p:Mp σ} {T T':Nat->Nat} {w w':World} {mb:Nat} {m m':Mc σ} {calls calls':Int} {hv:Value} {g:Nat} {s:Nat->Nat} {K fb:Nat} {f:Fr} {cv av tv sv kv:Value}
theorem xhU (h:w.heap[fb]?=some (FB f cv av tv sv kv))(n:Int):(w.setCell ⟨fb,12,none⟩ (.int .i64 n)).heap[fb]?=some (FB { f with pc:=n } cv av tv sv kv):=by
 rw[xag h];rfl
theorem FrAt.pcAt (h:FrAt T K w fb f cv av tv sv kv)(k:Kp (fun t=>t=K) T w w')(n:Int)(hb:w'.heap[fb]?=some (FB { f with pc:=n } cv av tv sv kv)):FrAt T K w' fb { f with pc:=n } cv av tv sv kv:=
 h.turn k hb rfl rfl rfl rfl h.stack h.stag h.few
theorem xkz (h:MacAt p T w mb m calls hv g s)(hF:FrAt T K w fb f cv av tv sv kv)(a b:Int)(ht:0<=m.tz/\m.tz<=300):Calls Tryz.prog 106 #[.pointer (some ⟨mb,0,none⟩),.pointer (some ⟨fb,0,none⟩),.int .i64 a,.int .i64 b] w fun e w'=>e=.returned (.int .i64 (xaV m f a b).2.2)/\MacAt p T w' mb (xaV m f a b).1 calls hv g s/\FrAt T K w' fb (xaV m f a b).2.1 cv av tv sv kv/\Kp (fun t=>t=1\/t=K) T w w':=by
 have hp:=hF.pos;have c6:=h.c6;have cf:=xap h.box;have ff:=xap hF.box;have d12:w.cell? ⟨fb,12,none⟩=some (.int .i64 f.pc):=by rw[qzB hF.box];rfl
 have hne:¬ mb=fb:=fun e=>by have:=h.tag;rw[e,hF.tag] at this;omega
 have hne':¬ fb=mb:=fun e=>hne e.symm
 have H:=hid h;have HF:=hid hF;have kM:∀ w':World,Kp (fun t=>t=1) T w w'->FrAt T K w' fb f cv av tv sv kv:=fun w' k=>hF.keep (.refl _ _) k (by omega) (by omega) (by omega) (by omega)
 clear h hF
 by_cases hb:b<=a
 ·have hb':decide (b<=a)=true:=by simpa using hb
  have hw:IntKind.i64.wrap (m.tz+1)=m.tz+1:=xat (by omega) (by omega)
  have k1:Kp (fun t=>t=1) T w (w.setCell ⟨mb,6,none⟩ (.int .i64 (m.tz+1))):=(Kp.refl _ _ _).set (fun _=>H.out.tag) _ _
  have m1:=H.out.turn (m':={ m with tz:=m.tz+1 }) (calls':=calls) k1 (xpw H.out.box _) rfl
  have f1:=kM _ k1
  by_cases h3:300<m.tz+1
  ·have HE:Hid (xaV m f a b=({ m with tz:=m.tz+1 },f,16)):=by show _=_;unfold xaV;simp only[hb,if_true];rw[if_pos h3]
   have h3':decide (300<m.tz+1)=true:=by simpa using h3
   have K1:=hid k1;have M1:=hid m1;have F1:=hid f1;clear k1 m1 f1 kM;go_enter Tryz.func106,Tryz.ntmps106;go_wp2
   go_ret
   rw[HE.out]
   exact⟨rfl,M1.out,F1.out,K1.out.mono fun t h=>Or.inl h⟩
  ·have HE:Hid (xaV m f a b=({ m with tz:=m.tz+1 },{ f with pc:=b },0)):=by show _=_;unfold xaV;simp only[hb,if_true];rw[if_neg h3]
   have h3':decide (300<m.tz+1)=false:=by simpa using h3
   have k2:Kp (fun t=>t=K) T (w.setCell ⟨mb,6,none⟩ (.int .i64 (m.tz+1))) ((w.setCell ⟨mb,6,none⟩ (.int .i64 (m.tz+1))).setCell ⟨fb,12,none⟩ (.int .i64 b)):=(Kp.refl _ _ _).set (fun _=>HF.out.tag) _ _
   have F2:=hid (f1.pcAt k2 b (xhU f1.box b));have M2:=hid (m1.keep (.refl _ _) k2 (by omega) (by omega) (by omega))
   have K2:=hid ((k1.mono (S':=fun t=>t=1\/t=K) fun t h=>Or.inl h).trans (.refl _ _) (k2.mono fun t h=>Or.inr h))
   clear k1 m1 f1 kM k2;go_enter Tryz.func106,Tryz.ntmps106;go_wp2
   go_ret
   rw[HE.out]
   exact⟨rfl,M2.out,F2.out,K2.out⟩
 ·have hb':decide (b<=a)=false:=by simpa using hb
  have HE:Hid (xaV m f a b=(m,{ f with pc:=b },0)):=by show _=_;unfold xaV;simp only[hb,if_false];rw[if_neg (by omega)]
  have h3':decide (300<m.tz)=false:=by simp;omega
  have k2:Kp (fun t=>t=K) T w (w.setCell ⟨fb,12,none⟩ (.int .i64 b)):=(Kp.refl _ _ _).set (fun _=>HF.out.tag) _ _
  have F2:=hid (HF.out.pcAt k2 b (xhU HF.out.box b));have M2:=hid (H.out.keep (.refl _ _) k2 (by omega) (by omega) (by omega))
  have K2:=hid (k2.mono (S':=fun t=>t=1\/t=K) fun t h=>Or.inr h)
  clear kM k2;go_enter Tryz.func106,Tryz.ntmps106;go_wp2
  go_ret
  rw[HE.out]
  exact⟨rfl,M2.out,F2.out,K2.out⟩
structure PvR (w:World)(a:QV)(w':World):Prop where
 a0:w'.cell? ⟨w.heap.size,0,none⟩=some (.int .i64 a.k)
 a1:w'.cell? ⟨w.heap.size,1,none⟩=some (.int .i64 a.n)
 r0:w'.cell? ⟨w.heap.size+1,0,none⟩=some (.int .i64 0)
 r1:w'.cell? ⟨w.heap.size+1,1,none⟩=some (.int .i64 0)
 rf:∀ o,w'.frozen? ⟨w.heap.size+1,o,none⟩=false
 sz:w.heap.size+2<=w'.heap.size
theorem PvR.later {w:World}{a:QV}{w' w'':World}(h:PvR w a w')(hb:∀ b,w.heap.size<=b->b<w'.heap.size->b<w.heap.size+2->w''.heap[b]?=w'.heap[b]?)(hz:w'.heap.size<=w''.heap.size):PvR w a w'':=by
 have hc:∀ b o v,w.heap.size<=b->b<w.heap.size+2->w'.cell? ⟨b,o,none⟩=some v->w''.cell? ⟨b,o,none⟩=some v:=fun b o v h1 h2 hv=>by
  have hl:=World.block_lt_of_cell? w' ⟨b,o,none⟩ hv;unfold World.cell? at hv ⊢;rw[hb b h1 hl h2];exact hv
 refine⟨hc _ _ _ (qzC _) (by omega) h.a0,hc _ _ _ (qzC _) (by omega) h.a1,hc _ _ _ (by omega) (by omega) h.r0,hc _ _ _ (by omega) (by omega) h.r1,fun o=>?_,qzD h.sz hz⟩
 have:=h.rf o;have hsz:=h.sz;unfold World.frozen? at this ⊢;simp only at this ⊢;rw[hb (w.heap.size+1) (by omega) (by omega) (by omega)];exact this
theorem xny (w:World)(a:QV):PvR w a ((w.alloc (.cells #[.int .i64 a.k,.int .i64 a.n] 27)).alloc (.cells #[.int .i64 0,.int .i64 0] 27)):=by
 refine⟨qzA (xak _ _) (xaa _ _ _ _ rfl 0),qzA (xak _ _) (xaa _ _ _ _ rfl 1),xaa _ _ _ _ (by simp) 0,xaa _ _ _ _ (by simp) 1,fun o=>xap (cur:=#[.int .i64 0,.int .i64 0]) (t:=27) ?_ o,by simp⟩
 have:=qzJ (w.alloc (.cells #[.int .i64 a.k,.int .i64 a.n] 27)) (.cells #[.int .i64 0,.int .i64 0] 27)
 simpa using this
def xba (E:Env σ)(m:Mc σ)(pr:Int)(self:QV)(args:List QV):Mc σ × QV × Int:=if E.fuel<=m.sz_ then (m,xaU,13) else ({ m with sz_:=m.sz_+1 },xbR pr self (xaM args 0))
theorem MacAt.tagged0 (h:MacAt p T w mb m calls hv g s)(t:Nat):MacAt p (xaF T w t) w mb m calls hv g s:=h.keep (S:=fun _=>False) (xaq T w t) (Kp.refl _ _ _) id id id
theorem FrAt.tagged0 (h:FrAt T K w fb f cv av tv sv kv)(t:Nat):FrAt (xaF T w t) K w fb f cv av tv sv kv:=h.keep (S:=fun _=>False) (xaq T w t) (Kp.refl _ _ _) id id id id
theorem xeG {α:Type}{E:Lay α}{sz bytes:Nat}{v:Value}{xs:List α}(h:IsRow E sz bytes (Fx T w) w v xs)(G:Good E sz)(t:Nat):IsRow E sz bytes (Fx (xaF T w t) w) w v xs:=h.fx G (xaq T w t) (Kp.refl (fun _=>False) T w) id
theorem xhG (h:MacAt p T w mb m calls hv g s)(h0:0<=m.sz_)(h1:p.E.fuel<=9000000000000000000)(pr:Int)(self:QV)(args:List QV)(av:Value)(ha:xaO (Fx T w) w av args)(hs:self.k=3->-1073741824<=self.n/\self.n<=1073741824)(hb:(xaM args 0).k=3->-1073741824<=(xaM args 0).n/\(xaM args 0).n<=1073741824) :
  Calls Tryz.prog 78 #[.pointer (some ⟨mb,0,none⟩),.int .i64 pr,VV self,av] w fun e w'=>e=.returned (.tuple #[VV (xba p.E m pr self args).2.1,.int .i64 (xba p.E m pr self args).2.2])/\(∃ T',Ext T T' w/\MacAt p T' w' mb (xba p.E m pr self args).1 calls hv g s)/\Kp (fun t=>t=1) T w w':=by
 have hlt:=xal h.box;have hR:=xny w self;have hb2:=xbP w (.cells #[.int .i64 self.k,.int .i64 self.n] 27) (.cells #[.int .i64 0,.int .i64 0] 27);have hM:=(h.tagged0 4).later hb2;have hA:=(xeG ha xa1 4).fx xa1 (.refl _ w) (Kp.of_below (S:=fun _=>False) hb2) id
 have hX:=xaq T w 4;have hT4:∀ b,w.heap.size<=b->xaF T w 4 b=4:=fun b hb=>xaJ hb
 obtain⟨a,cap,rfl,-⟩:=id ha;clear ha h;generalize xaF T w 4=T1 at *;go_enter Tryz.func78,Tryz.ntmps78
 go_upto_region 1 with (fail)
 generalize ((w.alloc (.cells #[.int .i64 self.k,.int .i64 self.n] 27)).alloc (.cells #[.int .i64 0,.int .i64 0] 27))=W at *;go_wp2_with fail;refine (xh3 hM h0 h1).mono ?_;rintro e w1 ⟨rfl,hM1,hK1⟩;have hA1:=hA.fx xa1 (.refl _ _) hK1 (by omega)
 have hR1:PvR w self w1:=hR.later (fun b hb1 hb2 hb3=>hK1.blk b hb2 (by rw[hT4 b hb1];omega)) hK1.size
 have KW:Hid (Kp (fun t=>t=1) T w w1):=hid (((Kp.of_below hb2).trans hX hK1))
 clear hK1 hA hR hM hb2
 by_cases hf:p.E.fuel<=m.sz_
 ·have HE:Hid (xba p.E m pr self args=(m,xaU,13)):=by show _=_;unfold xba;rw[if_pos hf]
  rw[if_pos hf] at hM1 ⊢;obtain⟨a0,a1,r0,r1,rf,sz⟩:=hR1;go_wp2;refine qzK (v:=.tuple #[VV xaU,.int .i64 13]) ?_ rfl ⟨by rw[HE.out],?_,?_⟩
  ·simp[results,Tryz.results78,go_sem,r0,r1]
  ·rw[HE.out]
   exact⟨T1,hX,hM1.keep (.refl _ _) (((Kp.refl (fun t=>t=4) _ _).set (fun _=>hT4 _ (by omega)) _ _).set (fun _=>hT4 _ (by omega)) _ _) (by omega) (by omega) (by omega)⟩
  ·exact (KW.out.set (fun h=>absurd h (by omega)) _ _).set (fun h=>absurd h (by omega)) _ _
 ·have HE:Hid (xba p.E m pr self args=({ m with sz_:=m.sz_+1 },xbR pr self (xaM args 0))):=by show _=_;unfold xba;rw[if_neg hf]
  rw[if_neg hf] at hM1 ⊢;have hq:=hR1.later (w'':=w1.drew) (fun b _ _ _=>rfl) (qzC _)
  have hA2:=hA1.later xa1 (qzL _ w1).drew;have hM2:=hM1.later (qzL _ w1).drew;have hS0:w1.drew.cell? ⟨w.heap.size,0,none⟩=some (.int .i64 self.k)/\w1.drew.cell? ⟨w.heap.size,1,none⟩=some (.int .i64 self.n):=⟨hq.a0,hq.a1⟩;have KW2:=hid KW.out.drew;have HQ:=hid hq;have HM2:=hid hM2;have HS:=hid hs;have HBB:=hid hb;clear hA1 hR1 hM1 KW hq hM2 hs hb;have hlt1:w.heap.size≠w.heap.size+1:=by omega
  go_wp2;obtain⟨u,hu⟩:∃ u,u=xaM args 0:=⟨_,rfl⟩;rw[← hu] at HBB HE;have hent:Calls Tryz.prog 92 #[.slice a args.length cap,.int .i64 0] w1.drew fun e w'=>e=.returned (VV u)/\Below w1.drew.heap.size w1.drew w':=by rw[hu];exact xc7 args _ 0 _ hA2
  clear hu;obtain⟨v1,e1,hr⟩:∃ v1 e1,xbR pr self u=(v1,e1):=⟨_,_,rfl⟩;have hprim:∀ w,Calls Tryz.prog 91 #[.int .i64 pr,VV self,VV u] w fun e w'=>e=.returned (.tuple #[VV v1,.int .i64 e1])/\Below w.heap.size w w':=fun w=>by have:=xoG pr self u w HS.out HBB.out;rw[hr] at this;exact this
  rw[hr] at HE;clear hr HS HBB;have tokA:True:=trivial
  go_region_held3 (fun w'=>w'.cell? ⟨w.heap.size,0,none⟩=some (.int .i64 self.k)/\w'.cell? ⟨w.heap.size,1,none⟩=some (.int .i64 self.n))
   (first | with_reducible exact hS0 | with_reducible exact hS1 | with_reducible exact hS2 | exact⟨(qzI _ _ _ _ (by simp)).trans ((qzI _ _ _ _ (by simp)).trans hS2.1),(qzI _ _ _ _ (by simp)).trans ((qzI _ _ _ _ (by simp)).trans hS2.2)⟩)
   (first
    | (have _t:=tokA;go_at_call 92;refine hent.mono ?_;rintro e w2 ⟨rfl,hb2⟩;have hS1:=And.intro (qzA hb2 hS0.1) (qzA hb2 hS0.2);clear tokA;have tokB:True:=trivial)
    | (have _t:=tokB;go_at_call 91;refine (hprim _).mono ?_;rintro e w3 ⟨rfl,hb3⟩;have hb13:=xaf hb2 hb3;have hq3:=HQ.out.later (fun b _ hl _=>hb13.block b hl) hb13.size;obtain⟨a0,a1,r0,r1,rf,sz⟩:=hq3;have hS2:=And.intro a0 a1;clear tokB))
  go_wp2;refine qzK (v:=.tuple #[VV v1,.int .i64 e1]) ?_ rfl ⟨by rw[HE.out],?_,?_⟩
  ·simp[results,Tryz.results78,go_sem,r0,r1]
  ·rw[HE.out]
   exact⟨T1,hX,(HM2.out.later hb13).keep (.refl _ _) (((Kp.refl (fun t=>t=4) _ _).set (fun _=>hT4 _ (by omega)) _ _).set (fun _=>hT4 _ (by omega)) _ _) (by omega) (by omega) (by omega)⟩
  ·exact ((KW2.out.on hb13).set (fun h=>absurd h (by omega)) _ _).set (fun h=>absurd h (by omega)) _ _
end
end Go.Proofs.YtaodadfahifbpaaGreat
