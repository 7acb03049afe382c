/- A part. -/
import Derived.Test.YtapbeiccodnniaaGreatM3
namespace Go.Proofs.YtapbeiccodnniaaGreat
open Go.ChangeShapes Go.WideShapes Go.ChangeAt Go.RowKit
set_option linter.unusedSimpArgs false
set_option linter.unusedVariables false
set_option maxHeartbeats 8000000
set_option maxRecDepth 8000
structure PlOk (f:Fr):Prop where
 fast:f.fast=false
 code:f.code=f.meth.code
 nums:∃ S n,∀ x∈f.code,xgk S n f.meth x=0
 hts:(xaH f.code).2.1=0
 args:(f.args.length:Int)=f.meth.args
 temps:(f.temps.length:Int)=f.meth.temps
 pc:∃ k:Nat,f.pc=k/\k<f.code.length/\(f.stack.length:Int)=(xaH f.code).1.getD k 0
theorem xkn {S n:Int}{m:QM}{x:QI}(h:xgk S n m x=0):1<=x.op/\x.op<=17/\(x.op=2->0<=x.a/\x.a<m.args)/\(x.op=3\/x.op=11->0<=x.a/\x.a<m.temps)/\(x.op=14->0<=x.a/\x.a<=4)/\x.b=0/\x.c=0:=by
 have h14:=xdW h;unfold xgk at h
 split at h
 ·cases h
 ·rename_i h1
  split at h
  ·cases h
  ·rename_i hra
   split at h
   ·cases h
   ·rename_i hr
    simp[inR] at h1
    refine⟨by omega,by omega,fun h2=>?_,fun h3=>?_,h14,by omega,by omega⟩
    ·simp[raE,h2,inR] at hra;omega
    ·rcases h3 with h3 | h3<;>(simp[raE,h3,inR] at hra;omega)
structure NxOk (f:Fr)(k:Nat)(x:QI):Prop where
 pc:f.pc=k
 lt:k<f.code.length
 here:f.code[k]?=some x
 need:(xaN x k).need<=f.stack.length
 back:x.op=17->f.stack.length=1
 few:f.stack.length<=12
 next:∀ t∈(xaN x k).next,∃ j:Nat,t=(j:Int)/\j<f.code.length/\(xaH f.code).1.getD j 0=f.stack.length+(xaN x k).more
 kind:1<=x.op/\x.op<=17
 arg:x.op=2->0<=x.a/\x.a<f.args.length
 temp:x.op=3\/x.op=11->0<=x.a/\x.a<f.temps.length
 send:x.op=14->0<=x.a/\x.a<=4
 zero:x.b=0/\x.c=0
theorem PlOk.nx {f:Fr}(h:PlOk f):∃ k x,NxOk f k x:=by
 obtain⟨S,n,hn⟩:=h.nums;obtain⟨k,hk,hlt,hs⟩:=h.pc;have hx:f.code[k]?=some f.code[k]:=List.getElem?_eq_getElem hlt;have hso:xc5 f.code:=fun y hy=>xdW (hn y hy)
 obtain⟨-,-,-,hat⟩:=xf3 hso h.hts;obtain⟨h1,h2,h3,h4⟩:=hat k _ hx (by omega)
 obtain⟨n1,n2,n3,n4,n5,n6,n7⟩:=xkn (hn f.code[k] (List.getElem_mem hlt));rw[← h.args] at n3;rw[← h.temps] at n4;refine⟨k,f.code[k],hk,hlt,hx,by omega,fun h17=>by have:=h3 h17;omega,by omega,fun t ht=>?_,⟨n1,n2⟩,n3,n4,n5,⟨n6,n7⟩⟩
 obtain⟨j,j1,j2,j3⟩:=h4 t ht
 exact⟨j,j1,j2,by omega⟩
theorem PlOk.go {f f':Fr}(h:PlOk f){k:Nat}{x:QI}(hx:NxOk f k x)(e1:f'.meth=f.meth)(e2:f'.args=f.args)(e3:f'.code=f.code)(e4:f'.fast=f.fast)(e5:f'.temps.length=f.temps.length)(e6:(f'.stack.length:Int)=f.stack.length+(xaN x k).more)(e7:f'.pc∈(xaN x k).next):PlOk f':=by
 obtain⟨j,j1,j2,j3⟩:=hx.next _ e7;refine⟨e4.trans h.fast,by rw[e3,e1];exact h.code,by rw[e3,e1];exact h.nums,by rw[e3];exact h.hts,by rw[e2,e1];exact h.args,by rw[e5,e1];exact h.temps,j,j1,by rw[e3];exact j2,by rw[e3,j3];exact e6⟩
theorem xhy {σ:Type}{m:Mc σ}{f:Fr}{a b:Int}(h0:(xaX m f a b).2.2=0):(xaX m f a b).2.1={ f with pc:=b }:=by
 unfold xaX at h0 ⊢;simp only[] at h0 ⊢;generalize (if b<=a then { m with tz:=m.tz+1 } else m:Mc σ)=m' at h0 ⊢
 by_cases h:300<m'.tz
 ·rw[if_pos h] at h0;cases h0
 ·rw[if_neg h]
theorem xfQ {h:List QO}{f:Fr}{x:QI}{v:QV}(e:xaA h f x=some v):1<=x.op/\x.op<=8:=by
 unfold xaA at e
 split at e
 ·omega
 ·split at e
  ·omega
  ·split at e
   ·omega
   ·split at e
    ·omega
    ·split at e
     ·omega
     ·split at e
      ·omega
      ·split at e
       ·omega
       ·split at e
        ·omega
        ·cases e
theorem xn7 {σ:Type}{ent:Ent σ}{E:Env σ}{d:Nat}{m:Mc σ}{f:Fr}(h:PlOk f){k:Nat}{x:QI}(hx:NxOk f k x)(h17:x.op≠17)(h0:(xan ent E d m { f with pc:=f.pc+1 } f.pc x).2.2=0):PlOk (xan ent E d m { f with pc:=f.pc+1 } f.pc x).2.1:=by
 have hpc:=hx.pc;have hneed:=hx.need;have hkind:=hx.kind;unfold xan at h0 ⊢
 split
 ·rename_i v e;have ho:=xfQ e
  have hn:xaN x k=⟨0,1,[(k:Int)+1]⟩:=by
   unfold xaN;rw[if_neg (by omega),if_neg (by omega),if_neg (by omega),if_neg (by omega),if_neg (by omega),if_neg (by omega)]
  exact h.go hx rfl rfl rfl rfl rfl (by rw[hn];simp[Fr.push]) (by rw[hn,← hpc];simp[Fr.push])
 ·rename_i e;rw[e] at h0;simp only[] at h0
  split
  ·rename_i h9;have hn:xaN x k=⟨1,-1,[(k:Int)+1]⟩:=by unfold xaN;rw[if_pos (by omega)]
   rw[hn] at hneed;simp only[] at hneed
   exact h.go hx rfl rfl rfl rfl rfl (by rw[hn];simp[Fr.pop];omega) (by rw[hn,← hpc];simp[Fr.pop])
  ·split
   ·rename_i h9 h10;have hn:xaN x k=⟨1,1,[(k:Int)+1]⟩:=by unfold xaN;rw[if_neg (by omega),if_pos h10]
    exact h.go hx rfl rfl rfl rfl rfl (by rw[hn];simp[Fr.push]) (by rw[hn,← hpc];simp[Fr.push])
   ·split
    ·rename_i h9 h10 h11;have hn:xaN x k=⟨1,-1,[(k:Int)+1]⟩:=by unfold xaN;rw[if_pos (by omega)]
     rw[hn] at hneed;simp only[] at hneed
     exact h.go hx rfl rfl rfl rfl (by simp[xcd]) (by rw[hn];simp[Fr.pop];omega) (by rw[hn,← hpc];simp[Fr.pop])
    ·split
     ·rename_i h9 h10 h11 h12;have hn:xaN x k=⟨1,-1,[(k:Int)+1]⟩:=by unfold xaN;rw[if_pos (by omega)]
      rw[hn] at hneed;simp only[] at hneed
      exact h.go hx rfl rfl rfl rfl rfl (by rw[hn];simp[Fr.pop];omega) (by rw[hn,← hpc];simp[Fr.pop])
     ·split
      ·rename_i h9 h10 h11 h12 h13;rw[if_neg h9,if_neg h10,if_neg h11,if_neg h12,if_pos h13] at h0
       have hn:xaN x k=⟨0,1,[(k:Int)+1]⟩:=by
        unfold xaN;rw[if_neg (by omega),if_neg (by omega),if_neg (by omega),if_neg (by omega),if_neg (by omega),if_neg (by omega)]
       unfold xbQ at h0 ⊢
       split
       ·rename_i hc;rw[if_pos hc] at h0;cases h0
       ·exact h.go hx rfl rfl rfl rfl rfl (by rw[hn];simp[Fr.push]) (by rw[hn,← hpc];simp[Fr.push])
      ·split
       ·rename_i h9 h10 h11 h12 h13 h14;rw[if_neg h9,if_neg h10,if_neg h11,if_neg h12,if_neg h13,if_pos h14] at h0;have hn:xaN x k=⟨x.a+1,-x.a,[(k:Int)+1]⟩:=by unfold xaN;rw[if_neg (by omega),if_neg (by omega),if_pos h14]
        rw[hn] at hneed;simp only[] at hneed;have ha:=hx.send h14;unfold xcm at h0 ⊢;simp only[] at h0 ⊢
        split
        ·rename_i hc;rw[if_pos hc] at h0;exact absurd h0 hc
        ·exact h.go hx rfl rfl rfl rfl rfl (by rw[hn];simp only[List.length_append,List.length_dropLast,List.length_take,List.length_cons,List.length_nil,xbu];omega) (by rw[hn,← hpc];simp)
       ·split
        ·rename_i h9 h10 h11 h12 h13 h14 h15;rw[if_neg h9,if_neg h10,if_neg h11,if_neg h12,if_neg h13,if_neg h14,if_pos h15] at h0;have hn:xaN x k=⟨0,0,[x.a]⟩:=by unfold xaN;rw[if_neg (by omega),if_neg (by omega),if_neg (by omega),if_pos h15]
         rw[xhy h0]
         exact h.go hx rfl rfl rfl rfl rfl (by rw[hn];simp) (by rw[hn];simp)
        ·split
         ·rename_i h9 h10 h11 h12 h13 h14 h15 h16;rw[if_neg h9,if_neg h10,if_neg h11,if_neg h12,if_neg h13,if_neg h14,if_neg h15,if_pos h16] at h0;have hn:xaN x k=⟨1,-1,[(k:Int)+1,x.a]⟩:=by unfold xaN;rw[if_neg (by omega),if_neg (by omega),if_neg (by omega),if_neg (by omega),if_pos h16]
          rw[hn] at hneed;simp only[] at hneed;unfold xbr at h0 ⊢
          split
          ·exact h.go hx rfl rfl rfl rfl rfl (by rw[hn];simp[Fr.pop];omega) (by rw[hn,← hpc];simp[Fr.pop])
          ·rename_i k2;rw[if_neg k2] at h0
           split
           ·rename_i k1;rw[if_pos k1] at h0;rw[xhy h0]
            exact h.go hx rfl rfl rfl rfl rfl (by rw[hn];simp[Fr.pop];omega) (by rw[hn];simp[Fr.pop])
           ·rename_i k1;rw[if_neg k1] at h0
            cases h0
         ·exfalso;rename_i h9 h10 h11 h12 h13 h14 h15 h16;rw[if_neg h9,if_neg h10,if_neg h11,if_neg h12,if_neg h13,if_neg h14,if_neg h15,if_neg h16] at h0;unfold xcl at h0;rw[if_pos h.fast] at h0
          cases h0
section
variable {σ:Type}
def muE (m:Mc σ)(f:Fr):Nat:=(if f.fast then 302*(f.meth.code.length+1) else 0)+(301-m.tz).toNat*(f.code.length+1)+(f.code.length-f.pc.toNat)
theorem xoz {m m':Mc σ}{f f':Fr}(ht:m.tz<=m'.tz)(e1:f'.fast=f.fast)(e2:f'.meth=f.meth)(e3:f'.code=f.code)(h0:0<=f.pc)(hl:f.pc.toNat<f.code.length)(hp:f.pc<f'.pc):muE m' f'<muE m f:=by
 unfold muE;rw[e1,e2,e3];have h1:(301-m'.tz).toNat*(f.code.length+1)<=(301-m.tz).toNat*(f.code.length+1):=Nat.mul_le_mul_right _ (by omega)
 omega
theorem xnp {m m':Mc σ}{f f':Fr}(ht:m'.tz=m.tz+1)(h300:m'.tz<=300)(e1:f'.fast=f.fast)(e2:f'.meth=f.meth)(e3:f'.code=f.code):muE m' f'<muE m f:=by
 unfold muE;rw[e1,e2,e3];have h1:(301-m.tz).toNat=(301-m'.tz).toNat+1:=by omega
 rw[h1,Nat.add_mul,Nat.one_mul]
 omega
theorem xmk {m:Mc σ}{f:Fr}(h0:0<=m.tz)(hf:f.fast=true)(c:Int):muE m (f.leave c)<muE m f:=by
 unfold muE;have e1:(f.leave c).fast=false:=rfl;have e2:(f.leave c).code=f.meth.code:=rfl;rw[e1,e2,hf];simp only[Bool.false_eq_true,if_false,if_true];have h1:(301-m.tz).toNat*(f.meth.code.length+1)<=301*(f.meth.code.length+1):=Nat.mul_le_mul_right _ (by omega)
 omega
theorem xkZ {m:Mc σ}{f:Fr}(h0:0<=m.tz):muE m f<=xeQ f:=by
 unfold muE xeQ;have h1:(301-m.tz).toNat*(f.code.length+1)<=301*(f.code.length+1):=Nat.mul_le_mul_right _ (by omega)
 split<;>omega
def xdy (ent:Ent σ):Prop:=∀ m c n s a,m.tz<=(ent m c n s a).1.tz
theorem xkE {m:Mc σ}{f:Fr}(h0:0<=f.pc)(hl:f.pc.toNat<f.code.length){f1:Fr}(e1:f1.fast=f.fast)(e2:f1.meth=f.meth)(e3:f1.code=f.code){b:Int}(he:(xaX m f1 f.pc b).2.2=0):muE (xaX m f1 f.pc b).1 (xaX m f1 f.pc b).2.1<muE m f:=by
 unfold xaX at he ⊢
 by_cases hb:b<=f.pc
 ·simp only[hb,if_true] at he ⊢
  by_cases h:300<m.tz+1
  ·rw[if_pos h] at he;cases he
  ·rw[if_neg h]
   exact xnp rfl (by simp only[];omega) e1 e2 e3
 ·simp only[hb,if_false] at he ⊢
  by_cases h:300<m.tz
  ·rw[if_pos h] at he;cases he
  ·rw[if_neg h]
   exact xoz (Int.le_refl _) e1 e2 e3 h0 hl (by simp only[];omega)
theorem xhK {ent:Ent σ}(ht:xdy ent){E:Env σ}{d:Nat}{m:Mc σ}{f:Fr}(hm:0<=m.tz)(h0:0<=f.pc)(hl:f.pc.toNat<f.code.length){x:QI}(he:(xan ent E d m { f with pc:=f.pc+1 } f.pc x).2.2=0):muE (xan ent E d m { f with pc:=f.pc+1 } f.pc x).1 (xan ent E d m { f with pc:=f.pc+1 } f.pc x).2.1<muE m f:=by
 have on:∀ {m':Mc σ} {f':Fr},m.tz<=m'.tz->f'.fast=f.fast->f'.meth=f.meth->f'.code=f.code->f'.pc=f.pc+1->muE m' f'<muE m f:=fun a b c d e=>xoz a b c d h0 hl (by omega)
 unfold xan at he ⊢
 split
 ·exact on (Int.le_refl _) rfl rfl rfl rfl
 ·rename_i e;rw[e] at he;simp only[] at he
  split
  ·exact on (Int.le_refl _) rfl rfl rfl rfl
  ·split
   ·exact on (Int.le_refl _) rfl rfl rfl rfl
   ·split
    ·exact on (Int.le_refl _) rfl rfl rfl rfl
    ·split
     ·exact on (Int.le_refl _) rfl rfl rfl rfl
     ·split
      ·rename_i h9 h10 h11 h12 h13;rw[if_neg h9,if_neg h10,if_neg h11,if_neg h12,if_pos h13] at he;unfold xbQ at he ⊢
       split
       ·rename_i hc;rw[if_pos hc] at he;cases he
       ·exact on (Int.le_refl _) rfl rfl rfl rfl
      ·split
       ·rename_i h9 h10 h11 h12 h13 h14;rw[if_neg h9,if_neg h10,if_neg h11,if_neg h12,if_neg h13,if_pos h14] at he;unfold xcm at he ⊢;simp only[] at he ⊢
        split
        ·rename_i hc;rw[if_pos hc] at he;exact absurd he hc
        ·exact on (ht _ _ _ _ _) rfl rfl rfl rfl
       ·split
        ·rename_i h9 h10 h11 h12 h13 h14 h15;rw[if_neg h9,if_neg h10,if_neg h11,if_neg h12,if_neg h13,if_neg h14,if_pos h15] at he
         exact xkE (f1:={ f with pc:=f.pc+1 }) h0 hl rfl rfl rfl he
        ·split
         ·rename_i h9 h10 h11 h12 h13 h14 h15 h16;rw[if_neg h9,if_neg h10,if_neg h11,if_neg h12,if_neg h13,if_neg h14,if_neg h15,if_pos h16] at he;unfold xbr at he ⊢
          split
          ·exact on (Int.le_refl _) rfl rfl rfl rfl
          ·rename_i k2;rw[if_neg k2] at he
           split
           ·rename_i k1;rw[if_pos k1] at he
            exact xkE (f1:=Fr.pop { f with pc:=f.pc+1 }) h0 hl rfl rfl rfl he
           ·rename_i k1;rw[if_neg k1] at he
            cases he
         ·rename_i h9 h10 h11 h12 h13 h14 h15 h16;rw[if_neg h9,if_neg h10,if_neg h11,if_neg h12,if_neg h13,if_neg h14,if_neg h15,if_neg h16] at he;unfold xcl at he ⊢
          split
          ·rename_i k;rw[if_pos k] at he;cases he
          ·rename_i hfast;have hfast':f.fast=true:=by simpa using hfast
           split
           ·simp only[]
            split
            ·exact on (Int.le_refl _) rfl rfl rfl rfl
            ·have:=xmk (m:=m) (f:={ f with pc:=f.pc+1 }) hm hfast' x.c
             have h2:muE m { f with pc:=f.pc+1 }<muE m f:=on (Int.le_refl _) rfl rfl rfl rfl
             omega
           ·split
            ·exact on (Int.le_refl _) rfl rfl rfl rfl
            ·split
             ·exact on (Int.le_refl _) rfl rfl rfl rfl
             ·split
              ·refine on ?_ rfl rfl rfl rfl;simp only[xay]
               split
               ·exact Int.le_refl _
               ·split
                ·exact Int.le_refl _
                ·exact Int.le_refl _
              ·exact on (Int.le_refl _) rfl rfl rfl rfl
theorem xf8 (m:Mc σ)(f:Fr)(a b:Int):m.tz<=(xaX m f a b).1.tz:=by
 unfold xaX
 by_cases h:b<=a
 ·simp only[h,if_true]
  split<;>(simp only[];omega)
 ·simp only[h,if_false]
  split<;>exact Int.le_refl _
theorem xfo (E:Env σ)(d:Nat)(m:Mc σ):(xay E d m).1.tz=m.tz:=by
 unfold xay
 split
 ·rfl
 ·split<;>rfl
theorem xei {ent:Ent σ}(ht:xdy ent)(E:Env σ)(d:Nat)(m:Mc σ)(f:Fr)(a:Int)(x:QI):m.tz<=(xan ent E d m f a x).1.tz:=by
 unfold xan
 split
 ·exact Int.le_refl _
 ·split
  ·exact Int.le_refl _
  ·split
   ·exact Int.le_refl _
   ·split
    ·exact Int.le_refl _
    ·split
     ·exact Int.le_refl _
     ·split
      ·unfold xbQ
       split<;>exact Int.le_refl _
      ·split
       ·unfold xcm;simp only[]
        split
        ·exact ht { m with st:=_ } _ _ _ _
        ·exact ht { m with st:=_ } _ _ _ _
       ·split
        ·exact xf8 _ _ _ _
        ·split
         ·unfold xbr
          split
          ·exact Int.le_refl _
          ·split
           ·exact xf8 _ _ _ _
           ·exact Int.le_refl _
         ·unfold xcl
          split
          ·exact Int.le_refl _
          ·split
           ·exact Int.le_refl _
           ·split
            ·exact Int.le_refl _
            ·split
             ·exact Int.le_refl _
             ·split
              ·exact Int.le_of_eq (xfo E d m).symm
              ·exact Int.le_refl _
theorem xhv {ent:Ent σ}(ht:xdy ent)(E:Env σ)(d:Nat):∀ (g:Nat) (m:Mc σ) (f:Fr),m.tz<=(xcL ent E d g m f).1.tz
 | 0,m,f=>Int.le_refl _
 | g+1,m,f=>by
  unfold xcL;generalize (if f.pc<0 then none else f.code[f.pc.toNat]?)=q
  cases q with
  | none=>exact Int.le_refl _
  | some x=>
   simp only[]
   split
   ·exact Int.le_refl _
   ·have h1:=xei ht E d m { f with pc:=f.pc+1 } f.pc x
    split
    ·exact h1
    ·exact Int.le_trans h1 (xhv ht E d g _ _)
theorem xe0 (E:Env σ)(d:Nat){body:Mc σ->Fr->Mc σ × QV × Int}(hb:∀ m f,m.tz<=(body m f).1.tz):xdy (xbj E d body):=by
 intro m c n s a;unfold xbj
 cases xaO E.cz c n with
 | none=>exact Int.le_refl _
 | some mt=>
  simp only[]
  split
  ·exact Int.le_refl _
  ·split
   ·split<;>exact Int.le_refl _
   ·split
    ·exact Int.le_refl _
    ·have h1:=xfo E d m;have h2:=hb (xay E d m).1 (xaG E c n mt s a)
     omega
theorem xcU (E:Env σ):∀ d:Nat,xdy (xa1 E d)
 | 0=>xe0 E 0 fun m f=>Int.le_refl _
 | d+1=>xe0 E (d+1) fun m f=>xhv (xcU E d) E d _ m f
theorem xfT {X:QW}(h:xaJ X=0){c n:Int}{m:QM}(hm:xaO X.cz c n=some m):(m.prim≠0/\m.args=1)\/(m.prim=0/\∃ S N:Int,wmE X.cz.length c m=0/\(∀ x∈m.code,xgk S N m x=0)/\(xaH m.code).2.1=0):=by
 obtain⟨hs,-,hk,-⟩:=xbE h;unfold xaO at hm
 cases hx:xby X.cz c with
 | none=>rw[hx] at hm;cases hm
 | some x=>
  rw[hx] at hm;simp only[Option.bind_some] at hm;obtain⟨k,rfl,hx'⟩:=xbn hx
  split at hm
  ·have hr:=hk k x (xae hx') hx';unfold rkE at hr
   split at hr
   ·cases hr
   ·split at hr
    ·cases hr
    ·have hq:=xbH hr _ _ hm;unfold rmE at hq
     split at hq
     ·cases hq
     ·split at hq
      ·rename_i hp
       left
       unfold xgz at hp;rw[List.any_eq_true] at hp;obtain⟨p,hpm,hp⟩:=hp;simp only[Bool.and_eq_true,decide_eq_true_eq] at hp;refine⟨?_,hp.1.1.2⟩;rw[← hp.1.1.1.2]
       have:∀ q∈xfw,q.prim≠0:=by
        intro q hq
        simp[xfw] at hq
        rcases hq with rfl | rfl | rfl | rfl | rfl<;>decide
       exact this p hpm
      ·right
       unfold xdY at hq
       split at hq
       ·rename_i a;exact absurd hq a
       ·rename_i a;have hw:wmE X.cz.length k m=0:=Decidable.of_not_not a
        split at hq
        ·rename_i f e;exact absurd hq (xgi e)
        ·rename_i e;refine⟨?_,_,_,hw,xgm e,hq⟩;unfold wmE at hw
         split at hw
         ·cases hw
         ·split at hw
          ·cases hw
          ·split at hw
           ·cases hw
           ·split at hw
            ·cases hw
            ·rename_i hp;exact Decidable.of_not_not hp
  ·cases hm
theorem xl9 {X:QW}(h:xaJ X=0){c n:Int}{m:QM}(hm:xaO X.cz c n=some m)(hp:m.prim=0){a:List QV}(ha:m.args=a.length)(s:QV){E:Env σ}(hq:E.quick c n=none):PlOk (xaG E c n m s a):=by
 rcases xfT h hm with ⟨hp',-⟩ | ⟨-,S,N,hw,hn,hh⟩
 ·exact absurd hp hp'
 ·obtain⟨hw1,hw2,hw3,-,-,-⟩:=xiV hw;have hso:xc5 m.code:=fun y hy=>xdW (hn y hy)
  obtain⟨-,h1,h2,-⟩:=xf3 hso hh;have hfr:xaG E c n m s a=⟨c,m,s,a,xaQ m.temps,[],m.code,0,false⟩:=by unfold xaG;rw[hq]
  rw[hfr];refine⟨rfl,rfl,⟨S,N,hn⟩,hh,ha.symm,?_,0,rfl,h1,?_⟩
  ·simp only[xaQ,List.length_replicate];omega
  ·rw[h2];rfl
end
section
variable {σ τ:Type}
structure MR (Rel:σ->τ->Prop)(m:Mc σ)(m':Mc τ):Prop where
 heap:m'.heap=m.heap
 sz_:m'.sz_=m.sz_
 tz:m'.tz=m.tz
 st:Rel m.st m'.st
def RR {α:Type}(Rel:σ->τ->Prop)(r:Mc σ × α × Int)(r':Mc τ × α × Int):Prop:=MR Rel r.1 r'.1/\r'.2=r.2
structure ER (Rel:σ->τ->Prop)(SOk:QS->ByteArray->Prop)(E:Env σ)(E':Env τ):Prop where
 cz:E'.cz=E.cz
 fuel:E'.fuel=E.fuel
 quick:E'.quick=E.quick
 look:∀ s t x c name,Rel s t->SOk x name->(E'.look t x c name).2=(E.look s x c name).2/\Rel (E.look s x c name).1 (E'.look t x c name).1
 plain:∀ c n m,xaO E.cz c n=some m->∀ (k:Nat) x,m.code[k]?=some x->x.op=14->SOk ⟨c,m.name,k⟩ x.name
 fast:∀ c n m q,xaO E.cz c n=some m->E.quick c n=some q->∀ x∈q.1,x.op=14->SOk ⟨c,m.name,x.c⟩ x.name
structure FR (SOk:QS->ByteArray->Prop)(f:Fr):Prop where
 code:f.fast=false->f.code=f.meth.code
 plain:∀ (k:Nat) x,f.meth.code[k]?=some x->x.op=14->SOk ⟨f.cls,f.meth.name,k⟩ x.name
 fast:f.fast=true->∀ x∈f.code,x.op=14->SOk ⟨f.cls,f.meth.name,x.c⟩ x.name
theorem FR.same {SOk:QS->ByteArray->Prop}{f f':Fr}(h:FR SOk f)(e1:f'.fast=f.fast)(e2:f'.code=f.code)(e3:f'.meth=f.meth)(e4:f'.cls=f.cls):FR SOk f':=by
 refine⟨?_,?_,?_⟩
 ·rw[e1,e2,e3];exact h.code
 ·rw[e3,e4];exact h.plain
 ·rw[e1,e2,e3,e4];exact h.fast
theorem FR.leave {SOk:QS->ByteArray->Prop}{f:Fr}(h:FR SOk f)(c:Int):FR SOk (f.leave c):=⟨fun _=>rfl,h.plain,fun h=>by cases h⟩
def xo0 (Rel:σ->τ->Prop)(ent:Ent σ)(ent':Ent τ):Prop:=∀ m m' c n s a,MR Rel m m'->RR Rel (ent m c n s a) (ent' m' c n s a)
theorem xiQ {Rel:σ->τ->Prop}{m:Mc σ}{m':Mc τ}(h:MR Rel m m')(f:Fr)(a b:Int):RR Rel (xaX m f a b) (xaX m' f a b):=by
 unfold xaX
 by_cases hb:b<=a
 ·simp only[hb,if_true,h.tz]
  split
  ·exact⟨⟨h.heap,h.sz_,rfl,h.st⟩,rfl⟩
  ·exact⟨⟨h.heap,h.sz_,rfl,h.st⟩,rfl⟩
 ·simp only[hb,if_false,h.tz]
  split
  ·exact⟨h,rfl⟩
  ·exact⟨h,rfl⟩
theorem xhp {Rel:σ->τ->Prop}{SOk:QS->ByteArray->Prop}{E:Env σ}{E':Env τ}(hE:ER Rel SOk E E')(d:Nat){m:Mc σ}{m':Mc τ}(h:MR Rel m m'):MR Rel (xay E d m).1 (xay E' d m').1/\(xay E' d m').2=(xay E d m).2:=by
 unfold xay;rw[hE.fuel,h.sz_]
 split
 ·exact⟨h,rfl⟩
 ·split
  ·exact⟨h,rfl⟩
  ·exact⟨⟨h.heap,rfl,h.tz,h.st⟩,rfl⟩
theorem xl0 {Rel:σ->τ->Prop}{SOk:QS->ByteArray->Prop}{E:Env σ}{E':Env τ}(hE:ER Rel SOk E E'){ent:Ent σ}{ent':Ent τ}(he:xo0 Rel ent ent')(d:Nat){m:Mc σ}{m':Mc τ}(h:MR Rel m m'){f:Fr}{at':Int}{x:QI}(hs:x.op=14->SOk (f.site at' x) x.name):RR Rel (xan ent E d m f at' x) (xan ent' E' d m' f at' x):=by
 unfold xan;rw[h.heap]
 split
 ·exact⟨h,rfl⟩
 ·split
  ·exact⟨h,rfl⟩
  ·split
   ·exact⟨h,rfl⟩
   ·split
    ·exact⟨h,rfl⟩
    ·split
     ·exact⟨⟨rfl,h.sz_,h.tz,h.st⟩,rfl⟩
     ·split
      ·unfold xbQ;rw[h.heap,hE.cz]
       split
       ·exact⟨h,rfl⟩
       ·exact⟨⟨rfl,h.sz_,h.tz,h.st⟩,rfl⟩
      ·split
       ·rename_i h14;unfold xcm;simp only[];rw[h.heap];obtain⟨l1,l2⟩:=hE.look m.st m'.st (f.site at' x) (xar m.heap (xaW (f.stack.take (xbu f.stack x.a)) 0)) x.name h.st (hs h14);generalize E.look m.st (f.site at' x) (xar m.heap (xaW (f.stack.take (xbu f.stack x.a)) 0)) x.name=l at l1 l2 ⊢;generalize E'.look m'.st (f.site at' x) (xar m.heap (xaW (f.stack.take (xbu f.stack x.a)) 0)) x.name=l' at l1 l2 ⊢;obtain⟨q1,q2⟩:=l;obtain⟨q1',q2'⟩:=l';simp only[] at l1 l2;subst l1;have hr:=he { m with st:=q1 } { m' with st:=q1' } q2'.1 q2'.2 (xaW (f.stack.take (xbu f.stack x.a)) 0) (f.stack.drop (xbu f.stack x.a)) ⟨h.heap,h.sz_,h.tz,l2⟩
        simp only[h.heap] at hr;generalize ent { m with st:=q1 } q2'.1 q2'.2 (xaW (f.stack.take (xbu f.stack x.a)) 0) (f.stack.drop (xbu f.stack x.a))=r at hr ⊢
        generalize ent' { heap:=m.heap,sz_:=m'.sz_,tz:=m'.tz,st:=q1' } q2'.1 q2'.2 (xaW (f.stack.take (xbu f.stack x.a)) 0) (f.stack.drop (xbu f.stack x.a))=r' at hr ⊢;obtain⟨r1,r2⟩:=hr;rw[r2]
        split
        ·exact⟨r1,rfl⟩
        ·exact⟨r1,rfl⟩
       ·split
        ·exact xiQ h f at' x.a
        ·split
         ·unfold xbr
          split
          ·exact⟨h,rfl⟩
          ·split
           ·exact xiQ h f.pop at' x.a
           ·exact⟨h,rfl⟩
         ·unfold xcl;rw[h.heap]
          split
          ·exact⟨h,rfl⟩
          ·split
           ·exact⟨h,rfl⟩
           ·split
            ·exact⟨h,rfl⟩
            ·split
             ·exact⟨⟨rfl,h.sz_,h.tz,h.st⟩,rfl⟩
             ·split
              ·obtain⟨c1,c2⟩:=xhp hE d h;refine⟨c1,?_⟩;simp only[];rw[c2]
              ·exact⟨h,rfl⟩
theorem xlp {SOk:QS->ByteArray->Prop}(m:Mc σ){f:Fr}(h:FR SOk f)(a b:Int):FR SOk (xaX m f a b).2.1:=by
 unfold xaX;simp only[];generalize (if b<=a then { m with tz:=m.tz+1 } else m:Mc σ)=m'
 split
 ·exact h
 ·exact h.same rfl rfl rfl rfl
theorem xnZ {SOk:QS->ByteArray->Prop}(ent:Ent σ)(E:Env σ)(d:Nat)(m:Mc σ){f:Fr}(h:FR SOk f)(a:Int)(x:QI):FR SOk (xan ent E d m f a x).2.1:=by
 unfold xan
 split
 ·exact h.same rfl rfl rfl rfl
 ·split
  ·exact h.same rfl rfl rfl rfl
  ·split
   ·exact h.same rfl rfl rfl rfl
   ·split
    ·exact h.same rfl rfl rfl rfl
    ·split
     ·exact h.same rfl rfl rfl rfl
     ·split
      ·unfold xbQ
       split
       ·exact h
       ·exact h.same rfl rfl rfl rfl
      ·split
       ·unfold xcm;simp only[]
        split
        ·exact h
        ·exact h.same rfl rfl rfl rfl
       ·split
        ·exact xlp m h a x.a
        ·split
         ·unfold xbr
          split
          ·exact h.same rfl rfl rfl rfl
          ·split
           ·exact xlp m (f:=f.pop) (h.same rfl rfl rfl rfl) a x.a
           ·exact h
         ·unfold xcl
          split
          ·exact h
          ·split
           ·simp only[]
            split
            ·exact h
            ·exact h.leave x.c
           ·split
            ·exact h.same rfl rfl rfl rfl
            ·split
             ·exact h.same rfl rfl rfl rfl
             ·split
              ·exact h
              ·exact h
theorem FR.site {SOk:QS->ByteArray->Prop}{f:Fr}(h:FR SOk f){x:QI}(h0:¬ f.pc<0)(hx:f.code[f.pc.toNat]?=some x)(h14:x.op=14)(t:Int):SOk (Fr.site { f with pc:=t } f.pc x) x.name:=by
 unfold Fr.site
 cases hf:f.fast with
 | false=>
  simp only[Bool.false_eq_true,if_false];rw[h.code hf] at hx;have:=h.plain _ x hx h14
  rwa [show ((f.pc.toNat:Nat):Int)=f.pc by omega] at this
 | true=>
  simp only[if_true]
  exact h.fast hf x (List.mem_of_getElem? hx) h14
theorem xk9 {Rel:σ->τ->Prop}{SOk:QS->ByteArray->Prop}{E:Env σ}{E':Env τ}(hE:ER Rel SOk E E'){ent:Ent σ}{ent':Ent τ}(he:xo0 Rel ent ent')(d:Nat):∀ (g:Nat) {m:Mc σ} {m':Mc τ} {f:Fr},MR Rel m m'->FR SOk f->RR Rel (xcL ent E d g m f) (xcL ent' E' d g m' f)
 | 0,m,m',f,h,hf=>⟨h,rfl⟩
 | g+1,m,m',f,h,hf=>by
  unfold xcL
  cases hq:(if f.pc<0 then none else f.code[f.pc.toNat]?) with
  | none=>exact⟨h,rfl⟩
  | some x=>
   simp only[]
   split
   ·exact⟨h,rfl⟩
   ·have hs:x.op=14->SOk (Fr.site { f with pc:=f.pc+1 } f.pc x) x.name:=fun h14=>by
     split at hq
     ·cases hq
     ·rename_i h0;exact hf.site h0 hq h14 _
    have hr:=xl0 hE he d h (f:={ f with pc:=f.pc+1 }) (at':=f.pc) hs
    have hfr:=xnZ ent E d m (f:={ f with pc:=f.pc+1 }) (hf.same rfl rfl rfl rfl) f.pc x
    generalize xan ent E d m { f with pc:=f.pc+1 } f.pc x=r at hr hfr ⊢
    generalize xan ent' E' d m' { f with pc:=f.pc+1 } f.pc x=r' at hr ⊢
    obtain⟨r1,r2⟩:=hr;rw[r2]
    split
    ·exact⟨r1,rfl⟩
    ·exact xk9 hE he d g r1 hfr
theorem xgE {Rel:σ->τ->Prop}{SOk:QS->ByteArray->Prop}{E:Env σ}{E':Env τ}(hE:ER Rel SOk E E')(d:Nat){body:Mc σ->Fr->Mc σ × QV × Int}{body':Mc τ->Fr->Mc τ × QV × Int}(hb:∀ {m m' f},MR Rel m m'->FR SOk f->RR Rel (body m f) (body' m' f)):xo0 Rel (xbj E d body) (xbj E' d body'):=by
 intro m m' c n s a h;unfold xbj;rw[hE.cz,hE.fuel,h.sz_]
 cases hm:xaO E.cz c n with
 | none=>exact⟨h,rfl⟩
 | some mt=>
  simp only[];have hfr:xaG E' c n mt s a=xaG E c n mt s a:=by unfold xaG;rw[hE.quick]
  have hf:FR SOk (xaG E c n mt s a):=by
   unfold xaG
   cases hq:E.quick c n with
   | none=>exact⟨fun _=>rfl,hE.plain c n mt hm,fun h=>by cases h⟩
   | some q=>exact⟨fun h=>(by cases h),hE.plain c n mt hm,fun _=>hE.fast c n mt q hm hq⟩
  split
  ·exact⟨h,rfl⟩
  ·split
   ·split
    ·exact⟨h,rfl⟩
    ·exact⟨⟨h.heap,rfl,h.tz,h.st⟩,rfl⟩
   ·obtain⟨c1,c2⟩:=xhp hE d h;rw[c2,hfr]
    split
    ·exact⟨h,rfl⟩
    ·exact hb c1 hf
theorem xfi {Rel:σ->τ->Prop}{SOk:QS->ByteArray->Prop}{E:Env σ}{E':Env τ}(hE:ER Rel SOk E E'):∀ d:Nat,xo0 Rel (xa1 E d) (xa1 E' d)
 | 0=>xgE hE 0 fun h _=>⟨h,rfl⟩
 | d+1=>xgE hE (d+1) fun h hf=>xk9 hE (xfi hE d) d _ h hf
end
section
variable {σ:Type}
def xlB (F:Int)(ent:Ent σ):Prop:=∀ m c n s a,m.sz_<=F->(ent m c n s a).1.sz_<=F/\0<=(ent m c n s a).1.sz_-m.sz_
theorem xiv (E:Env σ)(d:Nat){m:Mc σ}(h:m.sz_<=E.fuel):(xay E d m).1.sz_<=E.fuel/\0<=(xay E d m).1.sz_-m.sz_:=by
 unfold xay
 split
 ·simp only[];omega
 ·split
  ·simp only[];omega
  ·simp only[];omega
theorem xh5 {E:Env σ}{ent:Ent σ}(he:xlB E.fuel ent)(d:Nat){m:Mc σ}(h:m.sz_<=E.fuel)(f:Fr)(a:Int)(x:QI):(xan ent E d m f a x).1.sz_<=E.fuel/\0<=(xan ent E d m f a x).1.sz_-m.sz_:=by
 have self:m.sz_<=E.fuel/\0<=m.sz_-m.sz_:=⟨h,by omega⟩
 have jmp:∀ f a b,(xaX m f a b).1.sz_<=E.fuel/\0<=(xaX m f a b).1.sz_-m.sz_:=fun f a b=>by rw[xeh];exact self
 unfold xan
 split
 ·exact self
 ·split
  ·exact self
  ·split
   ·exact self
   ·split
    ·exact self
    ·split
     ·exact self
     ·split
      ·rw[xf6];exact self
      ·split
       ·unfold xcm;simp only[]
        split
        ·exact he { m with st:=_ } _ _ _ _ h
        ·exact he { m with st:=_ } _ _ _ _ h
       ·split
        ·exact jmp _ _ _
        ·split
         ·rw[xfI];exact self
         ·unfold xcl
          split
          ·exact self
          ·split
           ·exact self
           ·split
            ·exact self
            ·split
             ·exact self
             ·split
              ·exact xiv E d h
              ·exact self
theorem xmF {E:Env σ}{ent:Ent σ}(he:xlB E.fuel ent)(d:Nat):∀ (g:Nat) {m:Mc σ} (f:Fr),m.sz_<=E.fuel->(xcL ent E d g m f).1.sz_<=E.fuel/\0<=(xcL ent E d g m f).1.sz_-m.sz_
 | 0,m,f,h=>⟨h,by show 0<=m.sz_-m.sz_;omega⟩
 | g+1,m,f,h=>by
  have self:m.sz_<=E.fuel/\0<=m.sz_-m.sz_:=⟨h,by omega⟩
  unfold xcL;generalize (if f.pc<0 then none else f.code[f.pc.toNat]?)=q
  cases q with
  | none=>exact self
  | some x=>
   simp only[]
   split
   ·exact self
   ·have h1:=xh5 he d h { f with pc:=f.pc+1 } f.pc x
    split
    ·exact h1
    ·have h2:=xmF he d g (xan ent E d m { f with pc:=f.pc+1 } f.pc x).2.1 h1.1
     exact⟨h2.1,by omega⟩
theorem xiD {E:Env σ}(d:Nat){body:Mc σ->Fr->Mc σ × QV × Int}(hb:∀ {m} f,m.sz_<=E.fuel->(body m f).1.sz_<=E.fuel/\0<=(body m f).1.sz_-m.sz_):xlB E.fuel (xbj E d body):=by
 intro m c n s a h;have self:m.sz_<=E.fuel/\0<=m.sz_-m.sz_:=⟨h,by omega⟩
 unfold xbj
 cases xaO E.cz c n with
 | none=>exact self
 | some mt=>
  simp only[]
  split
  ·exact self
  ·split
   ·split
    ·exact self
    ·simp only[];omega
   ·split
    ·exact self
    ·have h1:=xiv E d h;have h2:=hb (xaG E c n mt s a) h1.1
     exact⟨h2.1,by omega⟩
theorem xlf (E:Env σ):∀ d:Nat,xlB E.fuel (xa1 E d)
 | 0=>xiD 0 fun f h=>⟨h,by simp only[];omega⟩
 | d+1=>xiD (d+1) fun f h=>xmF (xlf E d) d _ f h
end
def xap (X:QW)(s:QV)(name:ByteArray)(args:List QV)(fuel:Int):Int:=
 if xbf name=false then 7 else if 4<args.length then 5 else if fuel<0\/400<fuel then 3 else if xas X.heap.length s≠0 then xas X.heap.length s else xbe (fun _ v=>xas X.heap.length v) 0 args
def xcJ (X:QW)(fuel:Int):Env Unit:=⟨X.cz,fuel,fun _ _ c name=>((),xaw X.cz c name),xfk⟩
def xlZ (X:QW)(s:QV)(name:ByteArray)(args:List QV)(fuel:Int):Mc Unit × QV × Int:=
 xa1 (xcJ X fuel) 20 ⟨X.heap,0,0,()⟩ (xaw X.cz (xar X.heap s) name).1 (xaw X.cz (xar X.heap s) name).2 s args
structure Ran where
 heap:List QO
 v:QV
 err:Int
 sz_:Int
def xcI (X:QW)(s:QV)(name:ByteArray)(args:List QV)(fuel:Int):Ran:=
 if xap X s name args fuel≠0 then ⟨X.heap,xaU,xap X s name args fuel,0⟩
 else if (xlZ X s name args fuel).2.2≠0 then ⟨X.heap,xaU,(xlZ X s name args fuel).2.2,(xlZ X s name args fuel).1.sz_⟩
 else ⟨(xlZ X s name args fuel).1.heap,(xlZ X s name args fuel).2.1,0,(xlZ X s name args fuel).1.sz_⟩
theorem xcH {X:QW}{s:QV}{name:ByteArray}{args:List QV}{fuel:Int}(h:xap X s name args fuel=0):(0<=fuel/\fuel<=400)/\xas X.heap.length s=0/\VsOk X.heap.length args:=by
 unfold xap at h
 split at h
 ·cases h
 ·split at h
  ·cases h
  ·split at h
   ·cases h
   ·split at h
    ·rename_i k;exact absurd h k
    ·rename_i k1 k2 k3 k4;refine⟨by omega,Decidable.of_not_not k4,fun v hv=>?_⟩
     obtain⟨i,hi,rfl⟩:=List.mem_iff_getElem.1 hv
     exact xbH h i _ (List.getElem?_eq_getElem hi)
theorem xiu {X:QW}(h:xaJ X=0)(s:QV)(name:ByteArray)(args:List QV)(fuel:Int):xaJ ⟨X.cz,(xcI X s name args fuel).heap,X.ez⟩=0/\X.heap.length<=(xcI X s name args fuel).heap.length/\xas (xcI X s name args fuel).heap.length (xcI X s name args fuel).v=0:=by
 unfold xcI
 split
 ·exact⟨h,qzC _,xaT _⟩
 ·rename_i hw;have hw':=xcH (Decidable.of_not_not hw)
  split
  ·exact⟨h,qzC _,xaT _⟩
  ·exact xlj h (xeM h fuel _) rfl 20 rfl _ _ hw'.2.1 hw'.2.2
end Go.Proofs.YtapbeiccodnniaaGreat
