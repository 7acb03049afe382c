/- A part. -/
import Derived.Test.YtaodadfahifbpaaGreatM11
namespace Go.Proofs.YtaodadfahifbpaaGreat
open Go.ChangeShapes Go.WideShapes Go.ChangeAt Go.RowKit
set_option linter.unusedSimpArgs false
set_option linter.unusedVariables false
set_option maxHeartbeats 8000000
set_option maxRecDepth 8000
abbrev RowI (w:World)(base g k:Nat)(l:List Int):Prop:=w.ownsRow base 3 1 (.slice (some ⟨g,0,none⟩) l.length k) l.length (xbS l)
theorem RowI.lt {w:World}{base g k:Nat}{l:List Int}(h:RowI w base g k l):base<=g/\g<w.heap.size:=by
 obtain⟨-,⟨e,-⟩ | ⟨g',c,cur,e,h1,h2,-⟩⟩:=h
 ·cases e
 ·cases e;exact⟨h1,xai h2⟩
theorem RowI.keep {w w':World}{base g k:Nat}{l:List Int}(h:RowI w base g k l)(hk:w'.heap[g]?=w.heap[g]?):RowI w' base g k l:=by
 obtain⟨h0,⟨e,-⟩ | ⟨g',c,cur,e,h1,h2,h3⟩⟩:=h
 ·cases e
 ·cases e;exact⟨h0,Or.inr ⟨g,k,cur,rfl,h1,hk.trans h2,h3⟩⟩
theorem RowI.cell {w:World}{base g k:Nat}{l:List Int}(h:RowI w base g k l){j:Nat}(hj:j<l.length):w.cell? ⟨g,j,none⟩=some (.int .i64 (l.getD j 0)):=by
 obtain⟨h0,⟨e,-⟩ | ⟨g',c,cur,e,h1,h2,h3,h4,h5,h6⟩⟩:=h
 ·cases e
 ·cases e
  have hq:(xbS l)[j]?=some (.int .i64 (l.getD j 0)):=by simp[xbS,hj]
  rw[qzB h2];rw[← h6,List.getElem?_take] at hq
  split at hq
  ·simpa using hq
  ·cases hq
structure Two (w:World)(base gA kA gB kB:Nat)(A B:List Int):Prop where
 a:RowI w base gA kA A
 b:RowI w base gB kB B
 ne:gA≠gB
theorem Two.keep {w w':World}{base gA kA gB kB:Nat}{A B:List Int}(h:Two w base gA kA gB kB A B)(hb:∀ b,base<=b->b<w.heap.size->w'.heap[b]?=w.heap[b]?):Two w' base gA kA gB kB A B:=
 ⟨h.a.keep (hb _ h.a.lt.1 h.a.lt.2),h.b.keep (hb _ h.b.lt.1 h.b.lt.2),h.ne⟩
theorem Two.later {w w':World}{base gA kA gB kB:Nat}{A B:List Int}(h:Two w base gA kA gB kB A B)(hb:Below w.heap.size w w'):Two w' base gA kA gB kB A B:=h.keep fun b _ hl=>hb.block b hl
theorem Two.first {w w2:World}{base gA kA gB kB gg cap2:Nat}{A B:List Int}{X:Obj}{t:Int}(h:Two w base gA kA gB kB A B)(hown:w2.ownsRow base 3 1 (.slice (some ⟨gg,0,none⟩) (A.length+1) cap2) (A.length+1) (xbS A++[.int .i64 t]))(hgr:(w.alloc X).grownBy w2 (Value.ownBlock (.slice (some ⟨gA,0,none⟩) A.length kA)))(hor:(Value.ownBlock (.slice (some ⟨gA,0,none⟩) A.length kA))=some gg\/gg=(w.alloc X).heap.size)(hbase:base<=w.heap.size):Two w2 base gg cap2 gB kB (A++[t]) B/\Below base w w2:=by
 have hne:=h.ne;have hbl:=h.b.lt;have hal:=h.a.lt
 simp[Value.ownBlock] at hor
 refine⟨⟨?_,(h.b.keep ((xaj w X).block _ hbl.2)).keep (hgr.block gB (by simp;omega) (by simp[Value.ownBlock];omega)),by omega⟩,?_⟩
 ·show w2.ownsRow base 3 1 (.slice (some ⟨gg,0,none⟩) (A++[t]).length cap2) (A++[t]).length (xbS (A++[t]))
  simpa [xbS] using hown
 ·exact ((Below.refl base w).alloc hbase X).grown hgr (by simp;omega) fun k hk=>by simp[Value.ownBlock] at hk;omega
theorem Two.swap {w:World}{base gA kA gB kB:Nat}{A B:List Int}(h:Two w base gA kA gB kB A B):Two w base gB kB gA kA B A:=⟨h.b,h.a,Ne.symm h.ne⟩
structure RefH (w W0:World)(code:List QI)(gA kA gB kB:Nat)(A B h:List Int)(wr:World):Prop where
 two:Two wr (w.heap.size+3) gA kA gB kB A B
 row:wr.heap[w.heap.size+1+1]?=some (xeD h)
 bel:Below (w.heap.size+2) W0 wr
 size:w.heap.size+3<=wr.heap.size
 len:A.length=B.length
theorem RefH.later {w W0:World}{code:List QI}{gA kA gB kB:Nat}{A B h:List Int}{wr w':World}(hS:RefH w W0 code gA kA gB kB A B h wr)(hb:Below wr.heap.size wr w'):RefH w W0 code gA kA gB kB A B h w':=
 ⟨hS.two.later hb,xad hS.row hb,hS.bel.trans (hb.mono (by have:=hS.size;omega)),qzD hS.size hb.size,hS.len⟩
theorem xmE {A B:List Int}(hl:A.length=B.length){k:Nat}(hk:k<A.length):(A.zip B).drop k=(A.getD k 0,B.getD k 0) :: (A.zip B).drop (k+1):=by
 have h1:k<(A.zip B).length:=by simp;omega
 rw[List.drop_eq_getElem_cons h1]
 congr 1
 simp[show k<B.length by omega,hk]
theorem xmN {A B:List Int}(hl:A.length=B.length){k:Nat}(hk:k<=A.length)(l:List Int)(v:Int):((A++l).zip (B++l.map fun _=>v)).drop k=(A.zip B).drop k++l.map fun t=>(t,v):=by
 rw[List.zip_append hl,List.drop_append_of_le_length (by simp;omega)]
 congr 1
 induction l with
 | nil=>rfl
 | cons a r ih=>simp[ih]
theorem xhJ {P:Nat->Prop}(m:QM)(mv:Value)(w:World)(hc:xaK P w mv m.code)(hs:xcW m.code):Calls Tryz.prog 31 #[MV m mv] w fun e w'=>xji w m.code e w':=by
 obtain⟨ad,cap,rfl,hcl,hcap,hcb,hrow⟩:=id hc;unfold maxLen at hcap;obtain⟨i0,hi,hz0,hz1,hz2⟩:=xbd xh4;have hmi:=xfK m.code.length (by omega)
 go_enter Tryz.func31,Tryz.ntmps31;go_wp2;generalize hW0:((w.alloc (Obj.cells #[Value.string m.name,Value.int .i64 m.args,Value.int .i64 m.temps,Value.int .i64 m.prim,Value.slice ad m.code.length cap] 59)).alloc (Obj.cells #[Value.int .i64 0,Value.int .i64 0] 75))=W0 at *;have hs0:W0.heap.size=w.heap.size+1+1:=by rw[← hW0];simp
 have hbW:Below w.heap.size w W0:=by rw[← hW0];exact xbA _ _ _
 have mb:W0.heap[w.heap.size]?=some (.cells #[Value.string m.name,Value.int .i64 m.args,Value.int .i64 m.temps,Value.int .i64 m.prim,Value.slice ad m.code.length cap] 59 (0,0)):=by rw[← hW0,(xaj _ _).block _ (by simp)];exact xbf _ _ _ rfl
 have rb:W0.heap[w.heap.size+1]?=some (.cells #[Value.int .i64 0,Value.int .i64 0] 75 (0,0)):=by rw[← hW0];exact xbf _ _ _ (by simp)
 clear hW0
 go_loopg [22] m.code.length (fun g i wr=>∃ j:Nat,j+g=m.code.length/\i=.int .i64 j/\Below (w.heap.size+2) W0 wr/\wr.heap.size=w.heap.size+3/\wr.heap[w.heap.size+1+1]?=some (xeD (List.replicate j (-1)++List.replicate (m.code.length-j) 0)))
 case atStart=>exact⟨0,by omega,rfl,(xaj _ _).mono (by omega),by simp[hs0],by simpa using xbf W0 (xeD (List.replicate m.code.length 0)) _ hs0⟩
 case round=>
  obtain⟨j,hg,rfl,hb,hz,hr⟩:=hrel
  by_cases hj:j<m.code.length
  ·have hj1:(j:Int)<(m.code.length:Int):=by omega
   have hj0:(0:Int)<=(j:Int):=by omega
   have hcell:=xdP hr (k:=j) (by simp;omega)
   have hfree:=xd0 hr j;have hset:=xeU hr j (-1);rw[xmg hj] at hset;generalize (List.replicate j (-1:Int)++List.replicate (m.code.length-j) 0).getD j 0=u at hcell;go_wp2
   go_roundg (gk-1)
   case measure=>omega
   case rel=>exact⟨j+1,by omega,by go_num,hb.setCell (by show w.heap.size+2<=w.heap.size+1+1;omega) _,by rw[xa3];exact hz,hset⟩
  ·obtain rfl:j=m.code.length:=by omega
   have hr':wr.heap[w.heap.size+1+1]?=some (xeD (xcJ m.code.length)):=by simpa [xcJ] using hr
   clear hr;have hj1:(m.code.length:Int)<=(m.code.length:Int):=by omega
   have hb2:=xbA wr (Obj.cells #[Value.int .i64 0] 3) (Obj.cells #[Value.int .i64 0] 3)
   have hT:Two ((wr.alloc (Obj.cells #[Value.int .i64 0] 3)).alloc (Obj.cells #[Value.int .i64 0] 3)) (w.heap.size+3) (w.heap.size+3) 1 (w.heap.size+3+1) 1 [0] [0]:=
    ⟨⟨rfl,Or.inr ⟨_,1,#[Value.int .i64 0],rfl,qzC _,((xaj _ _).block _ (by simp[hz])).trans (xbf _ _ _ hz),by simp,by unfold maxLen;omega,rfl,rfl⟩⟩,
     ⟨rfl,Or.inr ⟨_,1,#[Value.int .i64 0],rfl,by omega,xbf _ _ _ (by simp[hz]),by simp,by unfold maxLen;omega,rfl,rfl⟩⟩,by omega⟩
   have hS:RefH w W0 m.code (w.heap.size+3) 1 (w.heap.size+3+1) 1 [0] [0] (xcJ m.code.length) ((wr.alloc (Obj.cells #[Value.int .i64 0] 3)).alloc (Obj.cells #[Value.int .i64 0] 3)):=
    ⟨hT,xad hr' hb2,hb.trans (hb2.mono (by omega)),by simp[hz],rfl⟩
   go_wp2
   go_loopg [6,7,8] (2*m.code.length+1) (fun g va vb kk wr=>∃ (gA kA gB kB:Nat) (A B h:List Int) (k:Nat),va=.slice (some ⟨gA,0,none⟩) A.length kA/\vb=.slice (some ⟨gB,0,none⟩) B.length kB/\kk=.int .i64 k/\k+g<=2*m.code.length+1/\k<=A.length/\xhY m.code g h ((A.zip B).drop k)=xaM m.code/\HInv m.code h ((A.zip B).drop k)/\xdV h ((A.zip B).drop k)<=g/\RefH w W0 m.code gA kA gB kB A B h wr)
   case atStart=>exact⟨w.heap.size+3,1,w.heap.size+3+1,1,[0],[0],_,0,by simp[hz],by simp[hz],rfl,by omega,by simp,rfl,HInv.start _,Nat.le_of_eq (xfa _),hS⟩
   case round=>
    obtain⟨gA,kA,gB,kB,A,B,h,k,rfl,rfl,rfl,hkg,hkA,hR,hI,hL,hS⟩:=hrel;clear hT hb2 hr' hb hz;have HLEN:Hid (A.length=B.length):=hS.len
    by_cases hk:k<A.length
    ·have hzd:=xmE HLEN.out hk;rw[hzd] at hR hI hL;obtain⟨g',rfl⟩:∃ g',gk=g'+1:=⟨gk-1,by simp[xdV] at hL;omega⟩
     have HR:Hid (xhY m.code (g'+1) h ((A.getD k 0,B.getD k 0) :: (A.zip B).drop (k+1))=xaM m.code):=hR;have HI:Hid (HInv m.code h ((A.getD k 0,B.getD k 0) :: (A.zip B).drop (k+1))):=hI;have HL:Hid (xdV h ((A.getD k 0,B.getD k 0) :: (A.zip B).drop (k+1))<=g'+1):=hL;have hw:=hI.wait _ (List.mem_cons_self ..);have hhl:=hI.len;simp only at hw;clear hR hI hL hzd;have ca:=hS.two.a.cell hk;have cb:=hS.two.b.cell (j:=k) (by have:=HLEN.out;omega)
     obtain⟨p,hp⟩:∃ p,p=A.getD k 0:=⟨_,rfl⟩;obtain⟨n,hn⟩:∃ n,n=B.getD k 0:=⟨_,rfl⟩;rw[← hp] at ca HR HI HL;rw[← hn] at cb HR HI HL hw;clear hp hn;have hk0:(0:Int)<=(k:Int):=by omega
     have hk1:(k:Int)<(A.length:Int):=by omega
     have hk2:(k:Int)<(B.length:Int):=by have:=HLEN.out;omega
     go_wp2
     go_quiet (fail)
     replace hS:=hS.later (below_drewN (Below.refl _ _) nq);clear ca cb;generalize wr.drewN nq=wq at *;have hbq:Below w.heap.size w wq:=hbW.trans (hS.bel.mono (by omega))
     have mq:wq.heap[w.heap.size]?=some (.cells #[Value.string m.name,Value.int .i64 m.args,Value.int .i64 m.temps,Value.int .i64 m.prim,Value.slice ad m.code.length cap] 59 (0,0)):=(hS.bel.block _ (by omega)).trans mb
     have rq:wq.heap[w.heap.size+1]?=some (.cells #[Value.int .i64 0,Value.int .i64 0] 75 (0,0)):=(hS.bel.block _ (by omega)).trans rb
     have mc:wq.cell? ⟨w.heap.size,4,none⟩=some (.slice ad m.code.length cap):=by rw[qzB mq];rfl
     obtain⟨rc,rf⟩:(∀ q,wq.cell? ⟨w.heap.size+1,q,none⟩=(#[Value.int .i64 0,.int .i64 0]:Array Value)[q]?)/\(∀ o,wq.frozen? ⟨w.heap.size+1,o,none⟩=false):=⟨fun q=>by rw[qzB rq],fun o=>by unfold World.frozen?;simp[rq]⟩
     have hfault:Hid (∀ (f:Int × Int) (W:World),xcH m.code h (p,n)=.inl f->Below w.heap.size w W->xji w m.code (.returned (.tuple #[.slice none 0 0,FV f])) W):=fun f W hst hb=>by
      have HE:xaM m.code=([],f):=by rw[← HR.out];unfold xhY;rw[hst]
      exact⟨hb,Or.inr ⟨by rw[HE];exact xfp hst,by rw[HE]⟩⟩
     have hbs:∀ (W:World) (u v:Value),Below w.heap.size w W->Below w.heap.size w ((W.setCell ⟨w.heap.size+1,0,none⟩ u).setCell ⟨w.heap.size+1,1,none⟩ v):=fun W u v hb=>(hb.setCell (by show w.heap.size<=w.heap.size+1;omega) _).setCell (by show w.heap.size<=w.heap.size+1;omega) _
     have HBS:=(show Hid (∀ (W:World) (u v:Value),Below w.heap.size w W->Below w.heap.size w ((W.setCell ⟨w.heap.size+1,0,none⟩ u).setCell ⟨w.heap.size+1,1,none⟩ v)) from hbs)
     clear hbs
     cases hx:xcZ m.code p with
     | none=>
      have hst:xcH m.code h (p,n)=.inl (9,(m.code.length:Int)):=by unfold xcH;simp only[hx]
      have HF:=hfault.out _ (((wq.setCell ⟨w.heap.size+1,0,none⟩ (.int .i64 9)).setCell ⟨w.heap.size+1,1,none⟩ (.int .i64 m.code.length))) hst (HBS.out _ _ _ hbq);have HF2:=hfault.out _ (((wq.setCell ⟨w.heap.size+1,0,none⟩ (.int .i64 9)).setCell ⟨w.heap.size+1,1,none⟩ (.int .i64 m.code.length))).drew hst (HBS.out _ _ _ hbq).drew;rw[xhA] at hx
      by_cases hpl:(m.code.length:Int)<=p
      ·go_wp2
       go_region
       all_goals go_wp2
       all_goals refine bodyPost_ret (v:=.tuple #[.slice none 0 0,FV (9,m.code.length)]) ?_ rfl ?_
       all_goals first
        | (simp[results,Tryz.results31,go_sem,rc,rf];done)
        | exact HF
        | exact HF2
      ·have hpl':decide ((m.code.length:Int)<=p)=false:=by simpa using hpl
       have hp0:p<0:=by omega
       go_wp2
       go_region
       all_goals go_wp2
       all_goals refine bodyPost_ret (v:=.tuple #[.slice none 0 0,FV (9,m.code.length)]) ?_ rfl ?_
       all_goals first
        | (simp[results,Tryz.results31,go_sem,rc,rf];done)
        | exact HF
        | exact HF2
     | some x=>
      obtain⟨q,rfl,hxq⟩:=xdd hx;have hq:=xag hxq;have hq0:(0:Int)<=(q:Int):=by omega
      have hq1:(q:Int)<(m.code.length:Int):=by omega
      have hq2:decide ((m.code.length:Int)<=(q:Int))=false:=by simp;omega
      have hcell:=xdP hS.row (k:=q) (by omega)
      have hfree:=xd0 hS.row q;have hsx:=hs x (List.mem_of_getElem? hxq);obtain⟨bc,oc,rfl,-,e0,e1,e2,e3,e4,-⟩:=hrow q x hxq;simp only[Nat.add_zero] at e0;have hbc:=World.block_lt_of_cell? _ _ e0;simp only at hbc;obtain⟨u,hu⟩:∃ u,u=h.getD q 0:=⟨_,rfl⟩
      have hst0:Hid (xcH m.code h ((q:Int),n)=if 0<=u then (if u≠n then .inl (8,(q:Int)) else .inr (h,[])) else if n<(xaP x q).need\/x.op=17/\n≠1 then .inl (8,(q:Int)) else if 12<n+(xaP x q).more then .inl (4,(q:Int)) else .inr (h.set q n,(xaP x q).next.map fun t=>(t,n+(xaP x q).more))):=by
       show _=_
       unfold xcH;simp only[hx,Int.toNat_natCast];rw[← hu]
      rw[← hu] at hcell;clear hu hx
      by_cases hv0:0<=u
      ·by_cases hv1:u=n
       ·have hst:xcH m.code h ((q:Int),n)=.inr (h,[]):=by rw[hst0.out,if_pos hv0,if_neg (by simpa using hv1)]
        obtain⟨k1,k2⟩:=HI.out.step hs hst
        have K3:Hid (xhY m.code g' h ((A.zip B).drop (k+1))=xaM m.code):=by
         show _=_
         rw[← HR.out]
         conv=>rhs;unfold xhY;rw[hst]
         simp
        have k4:=HL.out;rw[List.append_nil] at k1 k2;have K1:Hid (HInv m.code h ((A.zip B).drop (k+1))):=k1;have K2:Hid (xdV h ((A.zip B).drop (k+1))<=g'):=by show _<=_;omega
        subst hv1;clear k1 k2 k4;go_wp2
        go_roundg g'
        case measure=>omega
        case rel=>exact⟨gA,kA,gB,kB,A,B,h,k+1,rfl,rfl,by go_num,by omega,by omega,K3.out,K1.out,K2.out,hS⟩
       ·have hst:xcH m.code h ((q:Int),n)=.inl (8,(q:Int)):=by rw[hst0.out,if_pos hv0,if_pos hv1]
        have HF:=hfault.out _ _ hst (HBS.out wq (.int .i64 8) (.int .i64 q) hbq);have hv1':(u != n)=true:=by simpa using hv1
        go_wp2;refine bodyPost_ret (v:=.tuple #[.slice none 0 0,FV (8,(q:Int))]) ?_ rfl HF
        simp[results,Tryz.results31,go_sem,rc,rf]
      ·have hv0':decide (0<=u)=false:=by simpa using hv0
       have hS1:RefH w W0 m.code gA kA gB kB A B (h.set q n) (wq.setCell ⟨w.heap.size+1+1,q,none⟩ (.int .i64 n)):=by
        have hsz:=hS.size;refine⟨hS.two.keep fun b h1 _=>xac (by omega) _,xeU hS.row q n,hS.bel.setCell (by show w.heap.size+2<=w.heap.size+1+1;omega) _,by rw[xa3];exact hS.size,hS.len⟩
       have rq1:(wq.setCell ⟨w.heap.size+1+1,q,none⟩ (.int .i64 n)).heap[w.heap.size+1]?=some (.cells #[Value.int .i64 0,Value.int .i64 0] 75 (0,0)):=(xac (by omega) _).trans rq
       have mq1:(wq.setCell ⟨w.heap.size+1+1,q,none⟩ (.int .i64 n)).heap[w.heap.size]?=_:=(xac (by omega) _).trans mq
       have mc1:(wq.setCell ⟨w.heap.size+1+1,q,none⟩ (.int .i64 n)).cell? ⟨w.heap.size,4,none⟩=some (.slice (some ⟨bc,oc,none⟩) m.code.length cap):=by rw[qzB mq1];rfl
       have hbq1:Below w.heap.size w (wq.setCell ⟨w.heap.size+1+1,q,none⟩ (.int .i64 n)):=hbq.setCell (by show w.heap.size<=w.heap.size+1+1;omega) _
       have j0:=qzA hbq1 e0;have j1:=qzA hbq1 e1;have j2:=qzA hbq1 e2;have j3:=qzA hbq1 e3;have j4:=qzA hbq1 e4;go_wp2_with fail;clear mc hcell hfree rc rf rq mq hS j0 j1 j2 j3 j4 hbq mc1;generalize (wq.setCell ⟨w.heap.size+1+1,q,none⟩ (.int .i64 n))=w5 at *;refine (xkn x q _ hsx (xaq (by omega) (by omega))).mono ?_
       rintro e w6 ⟨an,kn,rfl,hIn,hb6⟩;have hrg:=xdK hsx q;generalize hNX:xaP x q=NX at *;obtain⟨need,more,next⟩:=NX;simp only at hrg hIn;have hbq6:=xae hbq1 hb6;have mq6:=xad mq1 hb6;have mc6:w6.cell? ⟨w.heap.size,4,none⟩=some (.slice (some ⟨bc,oc,none⟩) m.code.length cap):=by rw[qzB mq6];rfl
       have rq6:=xad rq1 hb6;obtain⟨rc,rf⟩:(∀ q,w6.cell? ⟨w.heap.size+1,q,none⟩=(#[Value.int .i64 0,.int .i64 0]:Array Value)[q]?)/\(∀ o,w6.frozen? ⟨w.heap.size+1,o,none⟩=false):=⟨fun q=>by rw[qzB rq6],fun o=>by unfold World.frozen?;simp[rq6]⟩
       have op6:=qzA hbq6 e0;have hS6:=hS1.later hb6;have hsum:IntKind.i64.wrap (n+more)=n+more:=xaq (by omega) (by omega)
       have hst1:Hid (xcH m.code h ((q:Int),n)=if n<need\/x.op=17/\n≠1 then .inl (8,(q:Int)) else if 12<n+more then .inl (4,(q:Int)) else .inr (h.set q n,next.map fun t=>(t,n+more))):=by
        show _=_
        rw[hst0.out,if_neg (by omega)]
       clear hst0
       by_cases c1:n<need
       ·have hst:xcH m.code h ((q:Int),n)=.inl (8,(q:Int)):=by rw[hst1.out,if_pos (Or.inl c1)]
        have HF:=hfault.out _ _ hst (HBS.out w6 (.int .i64 8) (.int .i64 q) hbq6);go_wp2;refine bodyPost_ret (v:=.tuple #[.slice none 0 0,FV (8,(q:Int))]) ?_ rfl HF
        simp[results,Tryz.results31,go_sem,rc,rf]
       ·have c1':decide (n<need)=false:=by simpa using c1
        by_cases c2:x.op=17/\n≠1
        ·have hst:xcH m.code h ((q:Int),n)=.inl (8,(q:Int)):=by rw[hst1.out,if_pos (Or.inr c2)]
         have HF:=hfault.out _ _ hst (HBS.out w6 (.int .i64 8) (.int .i64 q) hbq6);have c3:=c2.1;have c4:(n != 1)=true:=by simpa using c2.2
         clear c2;go_wp2;refine bodyPost_ret (v:=.tuple #[.slice none 0 0,FV (8,(q:Int))]) ?_ rfl HF
         simp[results,Tryz.results31,go_sem,rc,rf]
        ·have HNO:Hid (¬ (n<need\/x.op=17/\n≠1)):=fun h=>h.elim c1 c2
         have hsel:(x.op == 17)=false\/(x.op == 17)=true/\(n != 1)=false:=by
          by_cases h17:x.op=17
          ·right;refine⟨by simpa using h17,?_⟩
           have:n=1:=Classical.byContradiction fun h=>c2 ⟨h17,h⟩
           simp[this]
          ·left;simpa using h17
         clear c2;obtain⟨go,hgo⟩:∃ go,go=g':=⟨_,rfl⟩
         go_upto_region 19 with (fail)
         go_cut [101] (fun s101 wx=>s101=.bool false/\w6=wx)
         case first=>
          rcases hsel with hsel | ⟨hsel,hsel2⟩
          all_goals
           go_wp2_with fail
           go_meet
           case rel=>exact⟨rfl,rfl⟩
         case rest=>
          obtain⟨rfl,rfl⟩:=hcut
          by_cases c5:12<n+more
          ·have hst:xcH m.code h ((q:Int),n)=.inl (4,(q:Int)):=by rw[hst1.out,if_neg HNO.out,if_pos c5]
           have HF:=hfault.out _ _ hst (HBS.out w6 (.int .i64 4) (.int .i64 q) hbq6);go_wp2;refine bodyPost_ret (v:=.tuple #[.slice none 0 0,FV (4,(q:Int))]) ?_ rfl HF
           simp[results,Tryz.results31,go_sem,rc,rf]
          ·have c5':decide (12<n+more)=false:=by simpa using c5
           have hst:xcH m.code h ((q:Int),n)=.inr (h.set q n,next.map fun t=>(t,n+more)):=by rw[hst1.out,if_neg HNO.out,if_neg c5]
           obtain⟨k1,k2⟩:=HI.out.step hs hst;have k4:=HL.out;have hzm:=xmN HLEN.out (k:=k+1) (by omega) next (n+more)
           have K3:Hid (xhY m.code g' (h.set q n) (((A++next).zip (B++next.map fun _=>n+more)).drop (k+1))=xaM m.code):=by
            show _=_
            rw[← HR.out,hzm]
            conv=>rhs;unfold xhY;rw[hst]
           have K1:Hid (HInv m.code (h.set q n) (((A++next).zip (B++next.map fun _=>n+more)).drop (k+1))):=by show HInv _ _ _;rw[hzm];exact k1
           have K2:Hid (xdV (h.set q n) (((A++next).zip (B++next.map fun _=>n+more)).drop (k+1))<=g'):=by show _<=_;rw[hzm];omega
           have hAl:A.length<=2*m.code.length+1:=by
            have e1:((A.zip B).drop (k+1)).length+(k+1)=A.length:=by have:=HLEN.out;simp;omega
            simp[xdV] at k4
            simp at e1
            have:=HLEN.out
            omega
           clear hst k1 k2 k4 hzm HR HI HL hfault;obtain⟨an',kn',en,hin1,hin2,hin3,hin4⟩:=id hIn;simp only[Value.slice.injEq] at en;obtain⟨rfl,-,rfl⟩:=en;unfold maxLen at hin2;have hgA:=hS1.two.a.lt;have hgB:=hS1.two.b.lt;have hs56:=hb6.size;have hnl:next.length<=2:=hrg.2.2.2.2.2;go_wp2
           go_loopg [6,7,112] next.length (fun g2 va vb ii wi=>∃ (i gA kA gB kB:Nat),i+g2=next.length/\ii=.int .i64 i/\va=.slice (some ⟨gA,0,none⟩) (A++next.take i).length kA/\vb=.slice (some ⟨gB,0,none⟩) (B++(next.take i).map fun _=>n+more).length kB/\RefH w W0 m.code gA kA gB kB (A++next.take i) (B++(next.take i).map fun _=>n+more) (h.set q n) wi/\Keeps (fun b=>w5.heap.size<=b/\b<w6.heap.size) w6 wi/\(gA<w5.heap.size\/w6.heap.size<=gA)/\(gB<w5.heap.size\/w6.heap.size<=gB)/\w6.heap.size<=wi.heap.size)
           case atStart=>exact⟨0,gA,kA,gB,kB,by omega,rfl,by simp,by simp,by simpa using hS6,Keeps.refl _ _,Or.inl hgA.2,Or.inl hgB.2,qzC _⟩
           case round=>
            obtain⟨i,gA,kA,gB,kB,hik,rfl,rfl,rfl,hSi,hKi,hgAi,hgBi,hszi⟩:=hrel
            by_cases hil:i<next.length
            ·have hi1:(i:Int)<(next.length:Int):=by omega
             have hi0:(0:Int)<=(i:Int):=by omega
             obtain⟨b2,o2,rfl,hb2,hv⟩:=hin4 i next[i] (List.getElem?_eq_getElem hil);have hv':w6.cell? ⟨b2,o2+i*1+0,none⟩=some (.int .i64 next[i]):=hv;simp only[Nat.mul_one,Nat.add_zero] at hv';have hv2:=hKi _ _ _ ⟨hb2,World.block_lt_of_cell? _ _ hv'⟩ hv';have ht:next.take (i+1)=next.take i++[next[i]]:=by rw[List.take_add_one,List.getElem?_eq_getElem hil];rfl
             have HT:Hid (next.take (i+1)=next.take i++[next[i]]):=ht;have hti:(next.take i).length=i:=by rw[List.length_take];omega
             have hlA:(A++next.take i).length<=2*m.code.length+3:=by rw[List.length_append,hti];omega
             have hlB:(B++(next.take i).map fun _=>n+more).length<=2*m.code.length+3:=by rw[List.length_append,List.length_map,hti];have:=HLEN.out;omega
             have hsz:=hSi.size;generalize next[i]=t at *;have HAi:Hid (A++next.take (i+1)=(A++next.take i)++[t]):=by show _=_;rw[HT.out,List.append_assoc]
             have HBi:Hid (B++(next.take (i+1)).map (fun _=>n+more)=(B++(next.take i).map fun _=>n+more)++[n+more]):=by show _=_;rw[HT.out,List.map_append,List.append_assoc];rfl
             generalize A++next.take i=A1 at *;generalize (B++(next.take i).map fun _=>n+more)=B1 at *
             clear hv ht hti hv';have hTi:=hSi.two;have hkk:∀ {W W':World} {g:Nat},(g<w5.heap.size\/w6.heap.size<=g)->w6.heap.size<=W.heap.size->(∀ b,b<W.heap.size->b≠g->W'.heap[b]?=W.heap[b]?)->Keeps (fun b=>w5.heap.size<=b/\b<w6.heap.size) W W':=fun hg hs' h=>Keeps.of_block fun b hb hl=>h b hl (by omega)
             go_wp2_with (first
              | (at_builtin;refine wpList_append_lies _ rfl (.tmp 116) (.tmp 118) 87 rfl (w.heap.size+3) 3 i0 _ 1 8 Tryz.underlying87 hi hz0 hz1 hz2 rfl (by decide) (.slice (some ⟨gA,0,none⟩) A1.length kA) A1.length (xbS A1) rfl (hTi.a.alloc _) ⟨_,0,none⟩ 1 1 [.int .i64 t] rfl rfl (fun j u hu=>(by rw[Addr.add_lit,Nat.zero_add];exact (xaa wr _ 3 _ rfl j).trans (by simpa using hu))) (by intro u hu;simp at hu;subst hu;rfl) (by omega) (by unfold maxLen;omega) (by omega) (by simp;omega) _ rfl ?_;intro g2 c2 w2 hown2 hgr2 hor2 hlt2;have hT2:=hTi.first hown2 hgr2 hor2 hsz;have hs2:=hT2.2.size)
              | (at_builtin;refine wpList_append_lies _ rfl (.tmp 120) (.tmp 124) 87 rfl (w.heap.size+3) 3 i0 _ 1 8 Tryz.underlying87 hi hz0 hz1 hz2 rfl (by decide) (.slice (some ⟨gB,0,none⟩) B1.length kB) B1.length (xbS B1) rfl (hT2.1.b.alloc _) ⟨_,0,none⟩ 1 1 [.int .i64 (n+more)] rfl rfl (fun j u hu=>(by rw[Addr.add_lit,Nat.zero_add];exact (xaa w2 _ 3 _ rfl j).trans (by simpa using hu))) (by intro u hu;simp at hu;subst hu;rfl) (by omega) (by unfold maxLen;omega) (by omega) (by simp;omega) _ rfl ?_;intro g3 c3 w3 hown3 hgr3 hor3 hlt3;have hT3:=hT2.1.swap.first hown3 hgr3 hor3 (by omega)))
             have hs3:=hT3.2.size;have hne:=hTi.ne
             simp[Value.ownBlock] at hor2 hor3
             have hK2:Keeps (fun b=>w5.heap.size<=b/\b<w6.heap.size) wr w2:=hkk hgAi hszi fun b hb hb'=>(hgr2.block b (by simp;omega) (by simp[Value.ownBlock];omega)).trans ((xaj _ _).block b hb)
             have hK3:Keeps (fun b=>w5.heap.size<=b/\b<w6.heap.size) w2 w3:=hkk hgBi (by omega) fun b hb hb'=>(hgr3.block b (by simp;omega) (by simp[Value.ownBlock];omega)).trans ((xaj _ _).block b hb)
             have hl1:=hSi.len
             go_roundg (gk-1)
             case measure=>omega
             case rel=>
              refine⟨i+1,g2,c2,g3,c3,by omega,by go_num,by rw[HAi.out];simp,by rw[HBi.out];simp,?_,(hKi.trans hK2).trans hK3,by omega,by omega,by omega⟩
              rw[HAi.out,HBi.out]
              exact⟨hT3.1.swap,((hT2.2.trans hT3.2).block _ (by omega)).trans hSi.row,hSi.bel.trans ((hT2.2.trans hT3.2).mono (by omega)),by omega,by simp;exact hl1⟩
            ·obtain rfl:i=next.length:=by omega
             have hi1:(next.length:Int)<=(next.length:Int):=by omega
             rw[List.take_length] at hSi;simp only[List.take_length];go_wp2
             go_roundg go
             case measure=>omega
             case rel=>exact⟨gA,kA,gB,kB,A++next,B++next.map fun _=>n+more,h.set q n,k+1,by simp,by simp,by go_num,by omega,by simp;omega,by rw[hgo];exact K3.out,K1.out,by rw[hgo];exact K2.out,hSi⟩
    ·have hkeq:k=A.length:=by omega
     have HE:Hid (xaM m.code=(h,(0,0))):=by
      show _=_
      rw[← hR,List.drop_eq_nil_of_le (by have:=HLEN.out;simp;omega)]
      cases gk<;>rfl
     clear hR hI hL;have hk1:(A.length:Int)<=(k:Int):=by omega
     have hbq:Below w.heap.size w wr:=hbW.trans (hS.bel.mono (by omega))
     have rq:wr.heap[w.heap.size+1]?=some (.cells #[Value.int .i64 0,Value.int .i64 0] 75 (0,0)):=(hS.bel.block _ (by omega)).trans rb
     obtain⟨rc,rf⟩:(∀ q,wr.cell? ⟨w.heap.size+1,q,none⟩=(#[Value.int .i64 0,.int .i64 0]:Array Value)[q]?)/\(∀ o,wr.frozen? ⟨w.heap.size+1,o,none⟩=false):=⟨fun q=>by rw[qzB rq],fun o=>by unfold World.frozen?;simp[rq]⟩
     clear hkeq;go_wp2;refine bodyPost_ret (v:=.tuple #[.slice (some ⟨w.heap.size+1+1,0,none⟩) m.code.length m.code.length,FV (0,0)]) ?_ rfl ⟨?_,Or.inl ⟨by rw[HE.out],_,rfl,?_,by omega⟩⟩
     ·simp[results,Tryz.results31,go_sem,rc,rf]
     ·exact ((hbq.setCell (by simp) _).setCell (by simp) _)
     ·rw[xac (by omega),xac (by omega),HE.out]
      exact hS.row
def nbE (S n:Int)(m:QM)(x:QI):Option (Int × Int):=
 if x.op=1\/x.op=6\/x.op=7\/x.op=8\/x.op=9\/x.op=10\/x.op=17 then some (0,0)
 else if x.op=2 then some (0,m.args-1)
 else if x.op=3\/x.op=11 then some (0,m.temps-1)
 else if x.op=4\/x.op=12 then some (0,S-1)
 else if x.op=5 then some (-1073741824,1073741824)
 else if x.op=13 then some (0,n-1)
 else if x.op=14 then some (0,4)
 else if x.op=15\/x.op=16 then some (0,(m.code.length:Int)-1)
 else none
def xoS (S n:Int)(m:QM)(x:QI):Int:=
 match nbE S n m x with
 | none=>1
 | some b=>if x.op=13/\0<x.a/\x.a<4 then 3 else if x.a<b.1\/b.2<x.a then 3 else if rnB x=false\/x.b≠0\/x.c≠0 then 2 else 0
theorem xnL {S n:Int}{m:QM}{x:QI}(hn:1<=n)(hS:IntKind.i64.wrap (S-1)=S-1):xoS S n m x=xfm S n m x:=by
 unfold xoS xfm nbE raE inR;rw[hS];obtain⟨op,a,b,c,nm⟩:=x;simp only;generalize rnB ⟨op,a,b,c,nm⟩=rn
 by_cases h0:1<=op/\op<=17
 ·obtain⟨h1,h2⟩:=h0;have:op=1\/op=2\/op=3\/op=4\/op=5\/op=6\/op=7\/op=8\/op=9\/op=10\/op=11\/op=12\/op=13\/op=14\/op=15\/op=16\/op=17:=by omega
  rcases this with rfl | rfl | rfl | rfl | rfl | rfl | rfl | rfl | rfl | rfl | rfl | rfl | rfl | rfl | rfl | rfl | rfl
  all_goals simp
  all_goals (repeat' split)<;>first | rfl | omega
 ·have h1:¬ (op=1\/op=6\/op=7\/op=8\/op=9\/op=10\/op=17):=by omega
  have h2:¬ op=2:=by omega
  have h3:¬ (op=3\/op=11):=by omega
  have h4:¬ (op=4\/op=12):=by omega
  have h5:¬ op=5:=by omega
  have h6:¬ op=13:=by omega
  have h7:¬ op=14:=by omega
  have h8:¬ (op=15\/op=16):=by omega
  rw[if_neg h1,if_neg h2,if_neg h3,if_neg h4,if_neg h5,if_neg h6,if_neg h7,if_neg h8,show decide (1<=op/\op<=17)=false from by simpa using h0]
  simp
theorem xiE {P:Nat->Prop}(X:QW)(c:Int)(m:QM)(x:QI)(cv hv mv:Value)(w:World)(hh:xaf P w cv X.cz)(hH:xaA P w hv X.heap)(hM:xaK P w mv m.code)(ho:xbJ X.cz)(ha:0<=m.args/\m.args<=4)(ht:0<=m.temps/\m.temps<=6)(hn:x.name.size<=140737488351232):Calls Tryz.prog 30 #[WV cv hv X.ez,.int .i64 c,MV m mv,IV x] w fun e w'=>e=.returned (.int .i64 (xoS (xaR X.cz c) X.cz.length m x))/\Below w.heap.size w w':=by
 obtain⟨ad,cap,rfl,-,-,hby,-⟩:=id hh;obtain⟨ah,ch,rfl⟩:=hH.get;obtain⟨am,cm,rfl,-,-,hcb,-⟩:=id hM;have hsl:=xcn ho (X.cz.length+1) c 0 (by omega)
 have hsl1:0<=xaR X.cz c:=hsl.1;have hsl2:xaR X.cz c<=0+6*((X.cz.length+1:Nat):Int):=hsl.2;have hw1:IntKind.i64.wrap (m.args-1)=m.args-1:=xaq (by omega) (by omega)
 have hw2:IntKind.i64.wrap (m.temps-1)=m.temps-1:=xaq (by omega) (by omega)
 have hw3:IntKind.i64.wrap ((m.code.length:Int)-1)=(m.code.length:Int)-1:=xaq (by omega) (by omega)
 have hw4:IntKind.i64.wrap ((X.cz.length:Int)-1)=(X.cz.length:Int)-1:=xaq (by omega) (by omega)
 have hw5:IntKind.i64.wrap (xaR X.cz c-1)=xaR X.cz c-1:=xaq (by omega) (by omega)
 have hb3:=xeQ w (Obj.cells #[Value.slice ad X.cz.length cap,Value.slice ah X.heap.length ch,Value.int .i64 X.ez] 25) (Obj.cells #[Value.string m.name,Value.int .i64 m.args,Value.int .i64 m.temps,Value.int .i64 m.prim,Value.slice am m.code.length cm] 59) (Obj.cells #[Value.int .i64 x.op,Value.int .i64 x.a,Value.int .i64 x.b,Value.int .i64 x.c,Value.string x.name] 57);have xb:(((w.alloc (Obj.cells #[Value.slice ad X.cz.length cap,Value.slice ah X.heap.length ch,Value.int .i64 X.ez] 25)).alloc (Obj.cells #[Value.string m.name,Value.int .i64 m.args,Value.int .i64 m.temps,Value.int .i64 m.prim,Value.slice am m.code.length cm] 59)).alloc (Obj.cells #[Value.int .i64 x.op,Value.int .i64 x.a,Value.int .i64 x.b,Value.int .i64 x.c,Value.string x.name] 57)).heap[w.heap.size+1+1]?=some (.cells #[Value.int .i64 x.op,Value.int .i64 x.a,Value.int .i64 x.b,Value.int .i64 x.c,Value.string x.name] 57 (0,0)):=xbf _ _ _ (by simp)
 have mb:(((w.alloc (Obj.cells #[Value.slice ad X.cz.length cap,Value.slice ah X.heap.length ch,Value.int .i64 X.ez] 25)).alloc (Obj.cells #[Value.string m.name,Value.int .i64 m.args,Value.int .i64 m.temps,Value.int .i64 m.prim,Value.slice am m.code.length cm] 59)).alloc (Obj.cells #[Value.int .i64 x.op,Value.int .i64 x.a,Value.int .i64 x.b,Value.int .i64 x.c,Value.string x.name] 57)).heap[w.heap.size+1]?=some (.cells #[Value.string m.name,Value.int .i64 m.args,Value.int .i64 m.temps,Value.int .i64 m.prim,Value.slice am m.code.length cm] 59 (0,0)):=((xaj _ _).block _ (by simp)).trans (xbf _ _ _ (by simp))
 have wb:(((w.alloc (Obj.cells #[Value.slice ad X.cz.length cap,Value.slice ah X.heap.length ch,Value.int .i64 X.ez] 25)).alloc (Obj.cells #[Value.string m.name,Value.int .i64 m.args,Value.int .i64 m.temps,Value.int .i64 m.prim,Value.slice am m.code.length cm] 59)).alloc (Obj.cells #[Value.int .i64 x.op,Value.int .i64 x.a,Value.int .i64 x.b,Value.int .i64 x.c,Value.string x.name] 57)).heap[w.heap.size]?=some (.cells #[Value.slice ad X.cz.length cap,Value.slice ah X.heap.length ch,Value.int .i64 X.ez] 25 (0,0)):=((xbA _ _ _).block _ (by simp)).trans (xbf _ _ _ rfl)
 have HE:Hid (xoS (xaR X.cz c) X.cz.length m x=match nbE (xaR X.cz c) X.cz.length m x with | none=>1 | some b=>if x.op=13/\0<x.a/\x.a<4 then 3 else if x.a<b.1\/b.2<x.a then 3 else if rnB x=false\/x.b≠0\/x.c≠0 then 2 else 0):=rfl
 generalize xoS (xaR X.cz c) X.cz.length m x=R at *;have HRN:Hid (rnB x=if x.op=14 then xbm x.name else xlh x.name):=rfl;go_enter Tryz.func30,Tryz.ntmps30
 cases hnb:nbE (xaR X.cz c) X.cz.length m x with
 | none=>
  have hR:Hid (R=1):=by show _=_;rw[HE.out,hnb]
  obtain⟨op,xa,xbb,xc,nm⟩:=x;unfold nbE at hnb;simp only at hnb
  (repeat' split at hnb)<;>first | cases hnb | skip
  rename_i h1 h2 h3 h4 h5 h6 h7 h8;have n1:¬ op=1:=by omega
  have n2:¬ op=6:=by omega
  have n3:¬ op=7:=by omega
  have n4:¬ op=8:=by omega
  have n5:¬ op=9:=by omega
  have n6:¬ op=10:=by omega
  have n7:¬ op=17:=by omega
  have n8:¬ op=3:=by omega
  have n9:¬ op=11:=by omega
  have n10:¬ op=4:=by omega
  have n11:¬ op=12:=by omega
  have n12:¬ op=15:=by omega
  have n13:¬ op=16:=by omega
  go_wp2
  go_ret
  exact⟨xal hR.out.symm,hb3⟩
 | some b=>
  obtain⟨b1,b2⟩:=b;have HE2:Hid (R=if x.op=13/\0<x.a/\x.a<4 then 3 else if x.a<b1\/b2<x.a then 3 else if rnB x=false\/x.b≠0\/x.c≠0 then 2 else 0):=by show _=_;rw[HE.out,hnb]
  obtain⟨op,xa,xbb,xc,nm⟩:=x;simp only at HE2 HRN;unfold nbE at hnb;simp only at hnb
  have hops:op=1\/op=2\/op=3\/op=4\/op=5\/op=6\/op=7\/op=8\/op=9\/op=10\/op=11\/op=12\/op=13\/op=14\/op=15\/op=16\/op=17:=by
   (repeat' split at hnb)<;>first | omega | cases hnb
  rcases hops with rfl | rfl | rfl | rfl | rfl | rfl | rfl | rfl | rfl | rfl | rfl | rfl | rfl | rfl | rfl | rfl | rfl
  ·simp at hnb
   obtain⟨rfl,rfl⟩:=hnb;have HNO:Hid (¬ ((1:Int)=13/\0<xa/\xa<4)):=fun h=>absurd h.1 (by decide)
   by_cases c1:xa<(0:Int)
   ·go_wp2
    go_ret
    exact⟨xal (by rw[HE2.out,if_neg HNO.out,if_pos (Or.inl c1)]),hb3⟩
   ·have c1':decide (xa<(0:Int))=false:=by simpa using c1
    by_cases c2:(0:Int)<xa
    ·go_wp2
     go_ret
     exact⟨xal (by rw[HE2.out,if_neg HNO.out,if_pos (Or.inr c2)]),hb3⟩
    ·have c2':decide ((0:Int)<xa)=false:=by simpa using c2
     have HE3:Hid (R=if rnB ⟨1,xa,xbb,xc,nm⟩=false\/xbb≠0\/xc≠0 then 2 else 0):=by show _=_;rw[HE2.out,if_neg HNO.out,if_neg (by omega)]
     have HRE:Hid (rnB ⟨1,xa,xbb,xc,nm⟩=nm.toList.isEmpty):=rfl
     cases e1:nm.toList.isEmpty
     ·go_wp2
      go_ret
      exact⟨xal (by rw[HE3.out,if_pos (Or.inl (HRE.out.trans e1))]),hb3⟩
     ·by_cases c3:xbb=0
      ·by_cases c4:xc=0
       ·subst c3 c4;go_wp2
        go_ret
        exact⟨xal (by rw[HE3.out,if_neg (by rw[HRE.out,e1];simp)]),hb3⟩
       ·have c4':(xc != 0)=true:=by simpa using c4
        subst c3;go_wp2
        go_ret
        exact⟨xal (by rw[HE3.out,if_pos (Or.inr (Or.inr c4))]),hb3⟩
      ·have c3':(xbb != 0)=true:=by simpa using c3
       go_wp2
       go_ret
       exact⟨xal (by rw[HE3.out,if_pos (Or.inr (Or.inl c3))]),hb3⟩
  ·simp at hnb
   obtain⟨rfl,rfl⟩:=hnb;have HNO:Hid (¬ ((2:Int)=13/\0<xa/\xa<4)):=fun h=>absurd h.1 (by decide)
   by_cases c1:xa<(0:Int)
   ·go_wp2
    go_ret
    exact⟨xal (by rw[HE2.out,if_neg HNO.out,if_pos (Or.inl c1)]),hb3⟩
   ·have c1':decide (xa<(0:Int))=false:=by simpa using c1
    by_cases c2:m.args-1<xa
    ·go_wp2
     go_ret
     exact⟨xal (by rw[HE2.out,if_neg HNO.out,if_pos (Or.inr c2)]),hb3⟩
    ·have c2':decide (m.args-1<xa)=false:=by simpa using c2
     have HE3:Hid (R=if rnB ⟨2,xa,xbb,xc,nm⟩=false\/xbb≠0\/xc≠0 then 2 else 0):=by show _=_;rw[HE2.out,if_neg HNO.out,if_neg (by omega)]
     have HRE:Hid (rnB ⟨2,xa,xbb,xc,nm⟩=nm.toList.isEmpty):=rfl
     cases e1:nm.toList.isEmpty
     ·go_wp2
      go_ret
      exact⟨xal (by rw[HE3.out,if_pos (Or.inl (HRE.out.trans e1))]),hb3⟩
     ·by_cases c3:xbb=0
      ·by_cases c4:xc=0
       ·subst c3 c4;go_wp2
        go_ret
        exact⟨xal (by rw[HE3.out,if_neg (by rw[HRE.out,e1];simp)]),hb3⟩
       ·have c4':(xc != 0)=true:=by simpa using c4
        subst c3;go_wp2
        go_ret
        exact⟨xal (by rw[HE3.out,if_pos (Or.inr (Or.inr c4))]),hb3⟩
      ·have c3':(xbb != 0)=true:=by simpa using c3
       go_wp2
       go_ret
       exact⟨xal (by rw[HE3.out,if_pos (Or.inr (Or.inl c3))]),hb3⟩
  ·simp at hnb
   obtain⟨rfl,rfl⟩:=hnb;have HNO:Hid (¬ ((3:Int)=13/\0<xa/\xa<4)):=fun h=>absurd h.1 (by decide)
   by_cases c1:xa<(0:Int)
   ·go_wp2
    go_ret
    exact⟨xal (by rw[HE2.out,if_neg HNO.out,if_pos (Or.inl c1)]),hb3⟩
   ·have c1':decide (xa<(0:Int))=false:=by simpa using c1
    by_cases c2:m.temps-1<xa
    ·go_wp2
     go_ret
     exact⟨xal (by rw[HE2.out,if_neg HNO.out,if_pos (Or.inr c2)]),hb3⟩
    ·have c2':decide (m.temps-1<xa)=false:=by simpa using c2
     have HE3:Hid (R=if rnB ⟨3,xa,xbb,xc,nm⟩=false\/xbb≠0\/xc≠0 then 2 else 0):=by show _=_;rw[HE2.out,if_neg HNO.out,if_neg (by omega)]
     have HRE:Hid (rnB ⟨3,xa,xbb,xc,nm⟩=nm.toList.isEmpty):=rfl
     cases e1:nm.toList.isEmpty
     ·go_wp2
      go_ret
      exact⟨xal (by rw[HE3.out,if_pos (Or.inl (HRE.out.trans e1))]),hb3⟩
     ·by_cases c3:xbb=0
      ·by_cases c4:xc=0
       ·subst c3 c4;go_wp2
        go_ret
        exact⟨xal (by rw[HE3.out,if_neg (by rw[HRE.out,e1];simp)]),hb3⟩
       ·have c4':(xc != 0)=true:=by simpa using c4
        subst c3;go_wp2
        go_ret
        exact⟨xal (by rw[HE3.out,if_pos (Or.inr (Or.inr c4))]),hb3⟩
      ·have c3':(xbb != 0)=true:=by simpa using c3
       go_wp2
       go_ret
       exact⟨xal (by rw[HE3.out,if_pos (Or.inr (Or.inl c3))]),hb3⟩
  ·simp at hnb
   obtain⟨rfl,rfl⟩:=hnb;have HNO:Hid (¬ ((4:Int)=13/\0<xa/\xa<4)):=fun h=>absurd h.1 (by decide)
   go_wp2_with fail;refine (xcj X c _ _ _ (hh.later xau hb3) (hH.later xaz hb3) ho).mono ?_;rintro e w0 ⟨rfl,hb0⟩;replace hb3:=xae hb3 hb0;replace xb:=xad xb hb0;have xcc:∀ q,w0.cell? ⟨w.heap.size+1+1,q,none⟩=(#[Value.int .i64 4,Value.int .i64 xa,Value.int .i64 xbb,Value.int .i64 xc,Value.string nm]:Array Value)[q]?:=fun q=>by rw[qzB xb]
   clear hb0
   by_cases c1:xa<(0:Int)
   ·go_wp2
    go_ret
    exact⟨xal (by rw[HE2.out,if_neg HNO.out,if_pos (Or.inl c1)]),hb3⟩
   ·have c1':decide (xa<(0:Int))=false:=by simpa using c1
    by_cases c2:xaR X.cz c-1<xa
    ·go_wp2
     go_ret
     exact⟨xal (by rw[HE2.out,if_neg HNO.out,if_pos (Or.inr c2)]),hb3⟩
    ·have c2':decide (xaR X.cz c-1<xa)=false:=by simpa using c2
     have HE3:Hid (R=if rnB ⟨4,xa,xbb,xc,nm⟩=false\/xbb≠0\/xc≠0 then 2 else 0):=by show _=_;rw[HE2.out,if_neg HNO.out,if_neg (by omega)]
     have HRE:Hid (rnB ⟨4,xa,xbb,xc,nm⟩=nm.toList.isEmpty):=rfl
     cases e1:nm.toList.isEmpty
     ·go_wp2
      go_ret
      exact⟨xal (by rw[HE3.out,if_pos (Or.inl (HRE.out.trans e1))]),hb3⟩
     ·by_cases c3:xbb=0
      ·by_cases c4:xc=0
       ·subst c3 c4;go_wp2
        go_ret
        exact⟨xal (by rw[HE3.out,if_neg (by rw[HRE.out,e1];simp)]),hb3⟩
       ·have c4':(xc != 0)=true:=by simpa using c4
        subst c3;go_wp2
        go_ret
        exact⟨xal (by rw[HE3.out,if_pos (Or.inr (Or.inr c4))]),hb3⟩
      ·have c3':(xbb != 0)=true:=by simpa using c3
       go_wp2
       go_ret
       exact⟨xal (by rw[HE3.out,if_pos (Or.inr (Or.inl c3))]),hb3⟩
  ·simp at hnb
   obtain⟨rfl,rfl⟩:=hnb;have HNO:Hid (¬ ((5:Int)=13/\0<xa/\xa<4)):=fun h=>absurd h.1 (by decide)
   by_cases c1:xa<(-1073741824:Int)
   ·go_wp2
    go_ret
    exact⟨xal (by rw[HE2.out,if_neg HNO.out,if_pos (Or.inl c1)]),hb3⟩
   ·have c1':decide (xa<(-1073741824:Int))=false:=by simpa using c1
    by_cases c2:(1073741824:Int)<xa
    ·go_wp2
     go_ret
     exact⟨xal (by rw[HE2.out,if_neg HNO.out,if_pos (Or.inr c2)]),hb3⟩
    ·have c2':decide ((1073741824:Int)<xa)=false:=by simpa using c2
     have HE3:Hid (R=if rnB ⟨5,xa,xbb,xc,nm⟩=false\/xbb≠0\/xc≠0 then 2 else 0):=by show _=_;rw[HE2.out,if_neg HNO.out,if_neg (by omega)]
     have HRE:Hid (rnB ⟨5,xa,xbb,xc,nm⟩=nm.toList.isEmpty):=rfl
     cases e1:nm.toList.isEmpty
     ·go_wp2
      go_ret
      exact⟨xal (by rw[HE3.out,if_pos (Or.inl (HRE.out.trans e1))]),hb3⟩
     ·by_cases c3:xbb=0
      ·by_cases c4:xc=0
       ·subst c3 c4;go_wp2
        go_ret
        exact⟨xal (by rw[HE3.out,if_neg (by rw[HRE.out,e1];simp)]),hb3⟩
       ·have c4':(xc != 0)=true:=by simpa using c4
        subst c3;go_wp2
        go_ret
        exact⟨xal (by rw[HE3.out,if_pos (Or.inr (Or.inr c4))]),hb3⟩
      ·have c3':(xbb != 0)=true:=by simpa using c3
       go_wp2
       go_ret
       exact⟨xal (by rw[HE3.out,if_pos (Or.inr (Or.inl c3))]),hb3⟩
  ·simp at hnb
   obtain⟨rfl,rfl⟩:=hnb;have HNO:Hid (¬ ((6:Int)=13/\0<xa/\xa<4)):=fun h=>absurd h.1 (by decide)
   by_cases c1:xa<(0:Int)
   ·go_wp2
    go_ret
    exact⟨xal (by rw[HE2.out,if_neg HNO.out,if_pos (Or.inl c1)]),hb3⟩
   ·have c1':decide (xa<(0:Int))=false:=by simpa using c1
    by_cases c2:(0:Int)<xa
    ·go_wp2
     go_ret
     exact⟨xal (by rw[HE2.out,if_neg HNO.out,if_pos (Or.inr c2)]),hb3⟩
    ·have c2':decide ((0:Int)<xa)=false:=by simpa using c2
     have HE3:Hid (R=if rnB ⟨6,xa,xbb,xc,nm⟩=false\/xbb≠0\/xc≠0 then 2 else 0):=by show _=_;rw[HE2.out,if_neg HNO.out,if_neg (by omega)]
     have HRE:Hid (rnB ⟨6,xa,xbb,xc,nm⟩=nm.toList.isEmpty):=rfl
     cases e1:nm.toList.isEmpty
     ·go_wp2
      go_ret
      exact⟨xal (by rw[HE3.out,if_pos (Or.inl (HRE.out.trans e1))]),hb3⟩
     ·by_cases c3:xbb=0
      ·by_cases c4:xc=0
       ·subst c3 c4;go_wp2
        go_ret
        exact⟨xal (by rw[HE3.out,if_neg (by rw[HRE.out,e1];simp)]),hb3⟩
       ·have c4':(xc != 0)=true:=by simpa using c4
        subst c3;go_wp2
        go_ret
        exact⟨xal (by rw[HE3.out,if_pos (Or.inr (Or.inr c4))]),hb3⟩
      ·have c3':(xbb != 0)=true:=by simpa using c3
       go_wp2
       go_ret
       exact⟨xal (by rw[HE3.out,if_pos (Or.inr (Or.inl c3))]),hb3⟩
  ·simp at hnb
   obtain⟨rfl,rfl⟩:=hnb;have HNO:Hid (¬ ((7:Int)=13/\0<xa/\xa<4)):=fun h=>absurd h.1 (by decide)
   by_cases c1:xa<(0:Int)
   ·go_wp2
    go_ret
    exact⟨xal (by rw[HE2.out,if_neg HNO.out,if_pos (Or.inl c1)]),hb3⟩
   ·have c1':decide (xa<(0:Int))=false:=by simpa using c1
    by_cases c2:(0:Int)<xa
    ·go_wp2
     go_ret
     exact⟨xal (by rw[HE2.out,if_neg HNO.out,if_pos (Or.inr c2)]),hb3⟩
    ·have c2':decide ((0:Int)<xa)=false:=by simpa using c2
     have HE3:Hid (R=if rnB ⟨7,xa,xbb,xc,nm⟩=false\/xbb≠0\/xc≠0 then 2 else 0):=by show _=_;rw[HE2.out,if_neg HNO.out,if_neg (by omega)]
     have HRE:Hid (rnB ⟨7,xa,xbb,xc,nm⟩=nm.toList.isEmpty):=rfl
     cases e1:nm.toList.isEmpty
     ·go_wp2
      go_ret
      exact⟨xal (by rw[HE3.out,if_pos (Or.inl (HRE.out.trans e1))]),hb3⟩
     ·by_cases c3:xbb=0
      ·by_cases c4:xc=0
       ·subst c3 c4;go_wp2
        go_ret
        exact⟨xal (by rw[HE3.out,if_neg (by rw[HRE.out,e1];simp)]),hb3⟩
       ·have c4':(xc != 0)=true:=by simpa using c4
        subst c3;go_wp2
        go_ret
        exact⟨xal (by rw[HE3.out,if_pos (Or.inr (Or.inr c4))]),hb3⟩
      ·have c3':(xbb != 0)=true:=by simpa using c3
       go_wp2
       go_ret
       exact⟨xal (by rw[HE3.out,if_pos (Or.inr (Or.inl c3))]),hb3⟩
  ·simp at hnb
   obtain⟨rfl,rfl⟩:=hnb;have HNO:Hid (¬ ((8:Int)=13/\0<xa/\xa<4)):=fun h=>absurd h.1 (by decide)
   by_cases c1:xa<(0:Int)
   ·go_wp2
    go_ret
    exact⟨xal (by rw[HE2.out,if_neg HNO.out,if_pos (Or.inl c1)]),hb3⟩
   ·have c1':decide (xa<(0:Int))=false:=by simpa using c1
    by_cases c2:(0:Int)<xa
    ·go_wp2
     go_ret
     exact⟨xal (by rw[HE2.out,if_neg HNO.out,if_pos (Or.inr c2)]),hb3⟩
    ·have c2':decide ((0:Int)<xa)=false:=by simpa using c2
     have HE3:Hid (R=if rnB ⟨8,xa,xbb,xc,nm⟩=false\/xbb≠0\/xc≠0 then 2 else 0):=by show _=_;rw[HE2.out,if_neg HNO.out,if_neg (by omega)]
     have HRE:Hid (rnB ⟨8,xa,xbb,xc,nm⟩=nm.toList.isEmpty):=rfl
     cases e1:nm.toList.isEmpty
     ·go_wp2
      go_ret
      exact⟨xal (by rw[HE3.out,if_pos (Or.inl (HRE.out.trans e1))]),hb3⟩
     ·by_cases c3:xbb=0
      ·by_cases c4:xc=0
       ·subst c3 c4;go_wp2
        go_ret
        exact⟨xal (by rw[HE3.out,if_neg (by rw[HRE.out,e1];simp)]),hb3⟩
       ·have c4':(xc != 0)=true:=by simpa using c4
        subst c3;go_wp2
        go_ret
        exact⟨xal (by rw[HE3.out,if_pos (Or.inr (Or.inr c4))]),hb3⟩
      ·have c3':(xbb != 0)=true:=by simpa using c3
       go_wp2
       go_ret
       exact⟨xal (by rw[HE3.out,if_pos (Or.inr (Or.inl c3))]),hb3⟩
  ·simp at hnb
   obtain⟨rfl,rfl⟩:=hnb;have HNO:Hid (¬ ((9:Int)=13/\0<xa/\xa<4)):=fun h=>absurd h.1 (by decide)
   by_cases c1:xa<(0:Int)
   ·go_wp2
    go_ret
    exact⟨xal (by rw[HE2.out,if_neg HNO.out,if_pos (Or.inl c1)]),hb3⟩
   ·have c1':decide (xa<(0:Int))=false:=by simpa using c1
    by_cases c2:(0:Int)<xa
    ·go_wp2
     go_ret
     exact⟨xal (by rw[HE2.out,if_neg HNO.out,if_pos (Or.inr c2)]),hb3⟩
    ·have c2':decide ((0:Int)<xa)=false:=by simpa using c2
     have HE3:Hid (R=if rnB ⟨9,xa,xbb,xc,nm⟩=false\/xbb≠0\/xc≠0 then 2 else 0):=by show _=_;rw[HE2.out,if_neg HNO.out,if_neg (by omega)]
     have HRE:Hid (rnB ⟨9,xa,xbb,xc,nm⟩=nm.toList.isEmpty):=rfl
     cases e1:nm.toList.isEmpty
     ·go_wp2
      go_ret
      exact⟨xal (by rw[HE3.out,if_pos (Or.inl (HRE.out.trans e1))]),hb3⟩
     ·by_cases c3:xbb=0
      ·by_cases c4:xc=0
       ·subst c3 c4;go_wp2
        go_ret
        exact⟨xal (by rw[HE3.out,if_neg (by rw[HRE.out,e1];simp)]),hb3⟩
       ·have c4':(xc != 0)=true:=by simpa using c4
        subst c3;go_wp2
        go_ret
        exact⟨xal (by rw[HE3.out,if_pos (Or.inr (Or.inr c4))]),hb3⟩
      ·have c3':(xbb != 0)=true:=by simpa using c3
       go_wp2
       go_ret
       exact⟨xal (by rw[HE3.out,if_pos (Or.inr (Or.inl c3))]),hb3⟩
  ·simp at hnb
   obtain⟨rfl,rfl⟩:=hnb;have HNO:Hid (¬ ((10:Int)=13/\0<xa/\xa<4)):=fun h=>absurd h.1 (by decide)
   by_cases c1:xa<(0:Int)
   ·go_wp2
    go_ret
    exact⟨xal (by rw[HE2.out,if_neg HNO.out,if_pos (Or.inl c1)]),hb3⟩
   ·have c1':decide (xa<(0:Int))=false:=by simpa using c1
    by_cases c2:(0:Int)<xa
    ·go_wp2
     go_ret
     exact⟨xal (by rw[HE2.out,if_neg HNO.out,if_pos (Or.inr c2)]),hb3⟩
    ·have c2':decide ((0:Int)<xa)=false:=by simpa using c2
     have HE3:Hid (R=if rnB ⟨10,xa,xbb,xc,nm⟩=false\/xbb≠0\/xc≠0 then 2 else 0):=by show _=_;rw[HE2.out,if_neg HNO.out,if_neg (by omega)]
     have HRE:Hid (rnB ⟨10,xa,xbb,xc,nm⟩=nm.toList.isEmpty):=rfl
     cases e1:nm.toList.isEmpty
     ·go_wp2
      go_ret
      exact⟨xal (by rw[HE3.out,if_pos (Or.inl (HRE.out.trans e1))]),hb3⟩
     ·by_cases c3:xbb=0
      ·by_cases c4:xc=0
       ·subst c3 c4;go_wp2
        go_ret
        exact⟨xal (by rw[HE3.out,if_neg (by rw[HRE.out,e1];simp)]),hb3⟩
       ·have c4':(xc != 0)=true:=by simpa using c4
        subst c3;go_wp2
        go_ret
        exact⟨xal (by rw[HE3.out,if_pos (Or.inr (Or.inr c4))]),hb3⟩
      ·have c3':(xbb != 0)=true:=by simpa using c3
       go_wp2
       go_ret
       exact⟨xal (by rw[HE3.out,if_pos (Or.inr (Or.inl c3))]),hb3⟩
  ·simp at hnb
   obtain⟨rfl,rfl⟩:=hnb;have HNO:Hid (¬ ((11:Int)=13/\0<xa/\xa<4)):=fun h=>absurd h.1 (by decide)
   by_cases c1:xa<(0:Int)
   ·go_wp2
    go_ret
    exact⟨xal (by rw[HE2.out,if_neg HNO.out,if_pos (Or.inl c1)]),hb3⟩
   ·have c1':decide (xa<(0:Int))=false:=by simpa using c1
    by_cases c2:m.temps-1<xa
    ·go_wp2
     go_ret
     exact⟨xal (by rw[HE2.out,if_neg HNO.out,if_pos (Or.inr c2)]),hb3⟩
    ·have c2':decide (m.temps-1<xa)=false:=by simpa using c2
     have HE3:Hid (R=if rnB ⟨11,xa,xbb,xc,nm⟩=false\/xbb≠0\/xc≠0 then 2 else 0):=by show _=_;rw[HE2.out,if_neg HNO.out,if_neg (by omega)]
     have HRE:Hid (rnB ⟨11,xa,xbb,xc,nm⟩=nm.toList.isEmpty):=rfl
     cases e1:nm.toList.isEmpty
     ·go_wp2
      go_ret
      exact⟨xal (by rw[HE3.out,if_pos (Or.inl (HRE.out.trans e1))]),hb3⟩
     ·by_cases c3:xbb=0
      ·by_cases c4:xc=0
       ·subst c3 c4;go_wp2
        go_ret
        exact⟨xal (by rw[HE3.out,if_neg (by rw[HRE.out,e1];simp)]),hb3⟩
       ·have c4':(xc != 0)=true:=by simpa using c4
        subst c3;go_wp2
        go_ret
        exact⟨xal (by rw[HE3.out,if_pos (Or.inr (Or.inr c4))]),hb3⟩
      ·have c3':(xbb != 0)=true:=by simpa using c3
       go_wp2
       go_ret
       exact⟨xal (by rw[HE3.out,if_pos (Or.inr (Or.inl c3))]),hb3⟩
  ·simp at hnb
   obtain⟨rfl,rfl⟩:=hnb;have HNO:Hid (¬ ((12:Int)=13/\0<xa/\xa<4)):=fun h=>absurd h.1 (by decide)
   go_wp2_with fail;refine (xcj X c _ _ _ (hh.later xau hb3) (hH.later xaz hb3) ho).mono ?_;rintro e w0 ⟨rfl,hb0⟩;replace hb3:=xae hb3 hb0;replace xb:=xad xb hb0;have xcc:∀ q,w0.cell? ⟨w.heap.size+1+1,q,none⟩=(#[Value.int .i64 12,Value.int .i64 xa,Value.int .i64 xbb,Value.int .i64 xc,Value.string nm]:Array Value)[q]?:=fun q=>by rw[qzB xb]
   clear hb0
   by_cases c1:xa<(0:Int)
   ·go_wp2
    go_ret
    exact⟨xal (by rw[HE2.out,if_neg HNO.out,if_pos (Or.inl c1)]),hb3⟩
   ·have c1':decide (xa<(0:Int))=false:=by simpa using c1
    by_cases c2:xaR X.cz c-1<xa
    ·go_wp2
     go_ret
     exact⟨xal (by rw[HE2.out,if_neg HNO.out,if_pos (Or.inr c2)]),hb3⟩
    ·have c2':decide (xaR X.cz c-1<xa)=false:=by simpa using c2
     have HE3:Hid (R=if rnB ⟨12,xa,xbb,xc,nm⟩=false\/xbb≠0\/xc≠0 then 2 else 0):=by show _=_;rw[HE2.out,if_neg HNO.out,if_neg (by omega)]
     have HRE:Hid (rnB ⟨12,xa,xbb,xc,nm⟩=nm.toList.isEmpty):=rfl
     cases e1:nm.toList.isEmpty
     ·go_wp2
      go_ret
      exact⟨xal (by rw[HE3.out,if_pos (Or.inl (HRE.out.trans e1))]),hb3⟩
     ·by_cases c3:xbb=0
      ·by_cases c4:xc=0
       ·subst c3 c4;go_wp2
        go_ret
        exact⟨xal (by rw[HE3.out,if_neg (by rw[HRE.out,e1];simp)]),hb3⟩
       ·have c4':(xc != 0)=true:=by simpa using c4
        subst c3;go_wp2
        go_ret
        exact⟨xal (by rw[HE3.out,if_pos (Or.inr (Or.inr c4))]),hb3⟩
      ·have c3':(xbb != 0)=true:=by simpa using c3
       go_wp2
       go_ret
       exact⟨xal (by rw[HE3.out,if_pos (Or.inr (Or.inl c3))]),hb3⟩
  ·simp at hnb
   obtain⟨rfl,rfl⟩:=hnb
   by_cases c0:0<xa/\xa<4
   ·have c01:=c0.1;have c02:=c0.2;have HR3:Hid (R=3):=by show _=_;rw[HE2.out,if_pos ⟨rfl,c0⟩]
    clear c0;go_wp2
    go_ret
    exact⟨xal HR3.out.symm,hb3⟩
   ·have HNO:Hid (¬ ((13:Int)=13/\0<xa/\xa<4)):=fun h=>c0 h.2
    by_cases c01:0<xa
    ·have c02:decide (xa<4)=false:=by simp;omega
     by_cases c1:xa<(0:Int)
     ·exact absurd c1 (by omega)
     ·have c1':decide (xa<(0:Int))=false:=by simpa using c1
      by_cases c2:(X.cz.length:Int)-1<xa
      ·go_wp2
       go_ret
       exact⟨xal (by rw[HE2.out,if_neg HNO.out,if_pos (Or.inr c2)]),hb3⟩
      ·have c2':decide ((X.cz.length:Int)-1<xa)=false:=by simpa using c2
       have HE3:Hid (R=if rnB ⟨13,xa,xbb,xc,nm⟩=false\/xbb≠0\/xc≠0 then 2 else 0):=by show _=_;rw[HE2.out,if_neg HNO.out,if_neg (by omega)]
       have HRE:Hid (rnB ⟨13,xa,xbb,xc,nm⟩=nm.toList.isEmpty):=rfl
       cases e1:nm.toList.isEmpty
       ·go_wp2
        go_ret
        exact⟨xal (by rw[HE3.out,if_pos (Or.inl (HRE.out.trans e1))]),hb3⟩
       ·by_cases c3:xbb=0
        ·by_cases c4:xc=0
         ·subst c3 c4;go_wp2
          go_ret
          exact⟨xal (by rw[HE3.out,if_neg (by rw[HRE.out,e1];simp)]),hb3⟩
         ·have c4':(xc != 0)=true:=by simpa using c4
          subst c3;go_wp2
          go_ret
          exact⟨xal (by rw[HE3.out,if_pos (Or.inr (Or.inr c4))]),hb3⟩
        ·have c3':(xbb != 0)=true:=by simpa using c3
         go_wp2
         go_ret
         exact⟨xal (by rw[HE3.out,if_pos (Or.inr (Or.inl c3))]),hb3⟩
    ·have c01':decide (0<xa)=false:=by simpa using c01
     by_cases c1:xa<(0:Int)
     ·go_wp2
      go_ret
      exact⟨xal (by rw[HE2.out,if_neg HNO.out,if_pos (Or.inl c1)]),hb3⟩
     ·have c1':decide (xa<(0:Int))=false:=by simpa using c1
      by_cases c2:(X.cz.length:Int)-1<xa
      ·go_wp2
       go_ret
       exact⟨xal (by rw[HE2.out,if_neg HNO.out,if_pos (Or.inr c2)]),hb3⟩
      ·have c2':decide ((X.cz.length:Int)-1<xa)=false:=by simpa using c2
       have HE3:Hid (R=if rnB ⟨13,xa,xbb,xc,nm⟩=false\/xbb≠0\/xc≠0 then 2 else 0):=by show _=_;rw[HE2.out,if_neg HNO.out,if_neg (by omega)]
       have HRE:Hid (rnB ⟨13,xa,xbb,xc,nm⟩=nm.toList.isEmpty):=rfl
       cases e1:nm.toList.isEmpty
       ·go_wp2
        go_ret
        exact⟨xal (by rw[HE3.out,if_pos (Or.inl (HRE.out.trans e1))]),hb3⟩
       ·by_cases c3:xbb=0
        ·by_cases c4:xc=0
         ·subst c3 c4;go_wp2
          go_ret
          exact⟨xal (by rw[HE3.out,if_neg (by rw[HRE.out,e1];simp)]),hb3⟩
         ·have c4':(xc != 0)=true:=by simpa using c4
          subst c3;go_wp2
          go_ret
          exact⟨xal (by rw[HE3.out,if_pos (Or.inr (Or.inr c4))]),hb3⟩
        ·have c3':(xbb != 0)=true:=by simpa using c3
         go_wp2
         go_ret
         exact⟨xal (by rw[HE3.out,if_pos (Or.inr (Or.inl c3))]),hb3⟩
  ·simp at hnb
   obtain⟨rfl,rfl⟩:=hnb;have HNO:Hid (¬ ((14:Int)=13/\0<xa/\xa<4)):=fun h=>absurd h.1 (by decide)
   by_cases c1:xa<(0:Int)
   ·go_wp2
    go_ret
    exact⟨xal (by rw[HE2.out,if_neg HNO.out,if_pos (Or.inl c1)]),hb3⟩
   ·have c1':decide (xa<(0:Int))=false:=by simpa using c1
    by_cases c2:(4:Int)<xa
    ·go_wp2
     go_ret
     exact⟨xal (by rw[HE2.out,if_neg HNO.out,if_pos (Or.inr c2)]),hb3⟩
    ·have c2':decide ((4:Int)<xa)=false:=by simpa using c2
     have HE3:Hid (R=if rnB ⟨14,xa,xbb,xc,nm⟩=false\/xbb≠0\/xc≠0 then 2 else 0):=by show _=_;rw[HE2.out,if_neg HNO.out,if_neg (by omega)]
     have HRE:Hid (rnB ⟨14,xa,xbb,xc,nm⟩=xbm nm):=rfl;go_wp2_with fail;refine (xdT nm _ hn).mono ?_;rintro e w1 ⟨rfl,hb1⟩;replace hb3:=xae hb3 hb1;replace xb:=xad xb hb1;have xcc:∀ q,w1.cell? ⟨w.heap.size+1+1,q,none⟩=(#[Value.int .i64 14,Value.int .i64 xa,Value.int .i64 xbb,Value.int .i64 xc,Value.string nm]:Array Value)[q]?:=fun q=>by rw[qzB xb]
     clear hb1
     cases e1:xbm nm
     ·go_wp2
      go_ret
      exact⟨xal (by rw[HE3.out,if_pos (Or.inl (HRE.out.trans e1))]),hb3⟩
     ·by_cases c3:xbb=0
      ·by_cases c4:xc=0
       ·subst c3 c4;go_wp2
        go_ret
        exact⟨xal (by rw[HE3.out,if_neg (by rw[HRE.out,e1];simp)]),hb3⟩
       ·have c4':(xc != 0)=true:=by simpa using c4
        subst c3;go_wp2
        go_ret
        exact⟨xal (by rw[HE3.out,if_pos (Or.inr (Or.inr c4))]),hb3⟩
      ·have c3':(xbb != 0)=true:=by simpa using c3
       go_wp2
       go_ret
       exact⟨xal (by rw[HE3.out,if_pos (Or.inr (Or.inl c3))]),hb3⟩
  ·simp at hnb
   obtain⟨rfl,rfl⟩:=hnb;have HNO:Hid (¬ ((15:Int)=13/\0<xa/\xa<4)):=fun h=>absurd h.1 (by decide)
   by_cases c1:xa<(0:Int)
   ·go_wp2
    go_ret
    exact⟨xal (by rw[HE2.out,if_neg HNO.out,if_pos (Or.inl c1)]),hb3⟩
   ·have c1':decide (xa<(0:Int))=false:=by simpa using c1
    by_cases c2:(m.code.length:Int)-1<xa
    ·go_wp2
     go_ret
     exact⟨xal (by rw[HE2.out,if_neg HNO.out,if_pos (Or.inr c2)]),hb3⟩
    ·have c2':decide ((m.code.length:Int)-1<xa)=false:=by simpa using c2
     have HE3:Hid (R=if rnB ⟨15,xa,xbb,xc,nm⟩=false\/xbb≠0\/xc≠0 then 2 else 0):=by show _=_;rw[HE2.out,if_neg HNO.out,if_neg (by omega)]
     have HRE:Hid (rnB ⟨15,xa,xbb,xc,nm⟩=nm.toList.isEmpty):=rfl
     cases e1:nm.toList.isEmpty
     ·go_wp2
      go_ret
      exact⟨xal (by rw[HE3.out,if_pos (Or.inl (HRE.out.trans e1))]),hb3⟩
     ·by_cases c3:xbb=0
      ·by_cases c4:xc=0
       ·subst c3 c4;go_wp2
        go_ret
        exact⟨xal (by rw[HE3.out,if_neg (by rw[HRE.out,e1];simp)]),hb3⟩
       ·have c4':(xc != 0)=true:=by simpa using c4
        subst c3;go_wp2
        go_ret
        exact⟨xal (by rw[HE3.out,if_pos (Or.inr (Or.inr c4))]),hb3⟩
      ·have c3':(xbb != 0)=true:=by simpa using c3
       go_wp2
       go_ret
       exact⟨xal (by rw[HE3.out,if_pos (Or.inr (Or.inl c3))]),hb3⟩
  ·simp at hnb
   obtain⟨rfl,rfl⟩:=hnb;have HNO:Hid (¬ ((16:Int)=13/\0<xa/\xa<4)):=fun h=>absurd h.1 (by decide)
   by_cases c1:xa<(0:Int)
   ·go_wp2
    go_ret
    exact⟨xal (by rw[HE2.out,if_neg HNO.out,if_pos (Or.inl c1)]),hb3⟩
   ·have c1':decide (xa<(0:Int))=false:=by simpa using c1
    by_cases c2:(m.code.length:Int)-1<xa
    ·go_wp2
     go_ret
     exact⟨xal (by rw[HE2.out,if_neg HNO.out,if_pos (Or.inr c2)]),hb3⟩
    ·have c2':decide ((m.code.length:Int)-1<xa)=false:=by simpa using c2
     have HE3:Hid (R=if rnB ⟨16,xa,xbb,xc,nm⟩=false\/xbb≠0\/xc≠0 then 2 else 0):=by show _=_;rw[HE2.out,if_neg HNO.out,if_neg (by omega)]
     have HRE:Hid (rnB ⟨16,xa,xbb,xc,nm⟩=nm.toList.isEmpty):=rfl
     cases e1:nm.toList.isEmpty
     ·go_wp2
      go_ret
      exact⟨xal (by rw[HE3.out,if_pos (Or.inl (HRE.out.trans e1))]),hb3⟩
     ·by_cases c3:xbb=0
      ·by_cases c4:xc=0
       ·subst c3 c4;go_wp2
        go_ret
        exact⟨xal (by rw[HE3.out,if_neg (by rw[HRE.out,e1];simp)]),hb3⟩
       ·have c4':(xc != 0)=true:=by simpa using c4
        subst c3;go_wp2
        go_ret
        exact⟨xal (by rw[HE3.out,if_pos (Or.inr (Or.inr c4))]),hb3⟩
      ·have c3':(xbb != 0)=true:=by simpa using c3
       go_wp2
       go_ret
       exact⟨xal (by rw[HE3.out,if_pos (Or.inr (Or.inl c3))]),hb3⟩
  ·simp at hnb
   obtain⟨rfl,rfl⟩:=hnb;have HNO:Hid (¬ ((17:Int)=13/\0<xa/\xa<4)):=fun h=>absurd h.1 (by decide)
   by_cases c1:xa<(0:Int)
   ·go_wp2
    go_ret
    exact⟨xal (by rw[HE2.out,if_neg HNO.out,if_pos (Or.inl c1)]),hb3⟩
   ·have c1':decide (xa<(0:Int))=false:=by simpa using c1
    by_cases c2:(0:Int)<xa
    ·go_wp2
     go_ret
     exact⟨xal (by rw[HE2.out,if_neg HNO.out,if_pos (Or.inr c2)]),hb3⟩
    ·have c2':decide ((0:Int)<xa)=false:=by simpa using c2
     have HE3:Hid (R=if rnB ⟨17,xa,xbb,xc,nm⟩=false\/xbb≠0\/xc≠0 then 2 else 0):=by show _=_;rw[HE2.out,if_neg HNO.out,if_neg (by omega)]
     have HRE:Hid (rnB ⟨17,xa,xbb,xc,nm⟩=nm.toList.isEmpty):=rfl
     cases e1:nm.toList.isEmpty
     ·go_wp2
      go_ret
      exact⟨xal (by rw[HE3.out,if_pos (Or.inl (HRE.out.trans e1))]),hb3⟩
     ·by_cases c3:xbb=0
      ·by_cases c4:xc=0
       ·subst c3 c4;go_wp2
        go_ret
        exact⟨xal (by rw[HE3.out,if_neg (by rw[HRE.out,e1];simp)]),hb3⟩
       ·have c4':(xc != 0)=true:=by simpa using c4
        subst c3;go_wp2
        go_ret
        exact⟨xal (by rw[HE3.out,if_pos (Or.inr (Or.inr c4))]),hb3⟩
      ·have c3':(xbb != 0)=true:=by simpa using c3
       go_wp2
       go_ret
       exact⟨xal (by rw[HE3.out,if_pos (Or.inr (Or.inl c3))]),hb3⟩
theorem xfN {P:Nat->Prop}(m:QM)(mv:Value)(w:World)(hc:xaK P w mv m.code)(hs:xcW m.code):Calls Tryz.prog 31 #[MV m mv] w fun e w'=>∃ a n k,e=.returned (.tuple #[.slice a n k,FV (xaM m.code).2])/\Below w.heap.size w w':=by
 refine (xhJ m mv w hc hs).mono ?_;rintro e w' ⟨hb,⟨h0,g,rfl,-,-⟩ | ⟨h0,rfl⟩⟩
 ·have:=xg0 _ _ _ h0
  exact⟨_,_,_,by unfold xaM at *;rw[this],hb⟩
 ·exact⟨_,_,_,rfl,hb⟩
structure RkS (w:World)(X:QW)(cv hv:Value)(m:QM)(mv:Value)(w':World):Prop where
 bel:Below w.heap.size w w'
 a0:w'.cell? ⟨w.heap.size,0,none⟩=some cv
 a1:w'.cell? ⟨w.heap.size,1,none⟩=some hv
 a2:w'.cell? ⟨w.heap.size,2,none⟩=some (.int .i64 X.ez)
 m0:w'.cell? ⟨w.heap.size+1,0,none⟩=some (.string m.name)
 m1:w'.cell? ⟨w.heap.size+1,1,none⟩=some (.int .i64 m.args)
 m2:w'.cell? ⟨w.heap.size+1,2,none⟩=some (.int .i64 m.temps)
 m3:w'.cell? ⟨w.heap.size+1,3,none⟩=some (.int .i64 m.prim)
 m4:w'.cell? ⟨w.heap.size+1,4,none⟩=some mv
 rb:w'.heap[w.heap.size+1+1]?=some (.cells #[.int .i64 0,.int .i64 0] 75 (0,0))
theorem RkS.later {w:World}{X:QW}{cv hv:Value}{m:QM}{mv:Value}{w' w1:World}(h:RkS w X cv hv m mv w')(hb:Below w'.heap.size w' w1):RkS w X cv hv m mv w1:=
 ⟨xae h.bel hb,qzA hb h.a0,qzA hb h.a1,qzA hb h.a2,qzA hb h.m0,qzA hb h.m1,qzA hb h.m2,qzA hb h.m3,qzA hb h.m4,xad h.rb hb⟩
theorem xjm (w:World)(X:QW)(cv hv:Value)(m:QM)(mv:Value):RkS w X cv hv m mv (((w.alloc (Obj.cells #[cv,hv,Value.int .i64 X.ez] 25)).alloc (Obj.cells #[Value.string m.name,Value.int .i64 m.args,Value.int .i64 m.temps,Value.int .i64 m.prim,mv] 59)).alloc (Obj.cells #[Value.int .i64 0,Value.int .i64 0] 75)):=by
 refine⟨xeQ _ _ _ _,?_,?_,?_,?_,?_,?_,?_,?_,xbf _ _ _ (by simp)⟩
 ·exact qzA (xbA _ _ _) (by rw[xaa _ _ _ _ rfl];rfl)
 ·exact qzA (xbA _ _ _) (by rw[xaa _ _ _ _ rfl];rfl)
 ·exact qzA (xbA _ _ _) (by rw[xaa _ _ _ _ rfl];rfl)
 all_goals exact qzA (xaj _ _) (by rw[xaa _ _ _ _ (by simp)];rfl)
theorem xpB {n:Nat}{c:Int}{m:QM}(h:c<0\/(n:Int)<=c):wmE n c m=6:=by unfold wmE;rw[if_pos (by simp[inR];omega)]
theorem xlz {n:Nat}{c:Int}{m:QM}(h:¬ (c<0\/(n:Int)<=c))(h2:xbm m.name=false):wmE n c m=7:=by unfold wmE;rw[if_neg (by simp[inR];omega),if_pos h2]
theorem xd9 {n:Nat}{c:Int}{m:QM}(h:¬ (c<0\/(n:Int)<=c))(h2:xbm m.name=true)(h3:m.args<0\/4<m.args\/m.temps<0\/6<m.temps):wmE n c m=3:=by unfold wmE;rw[if_neg (by simp[inR];omega),if_neg (by simp[h2]),if_pos (by simp[inR];omega)]
theorem xkP {n:Nat}{c:Int}{m:QM}(h:¬ (c<0\/(n:Int)<=c))(h2:xbm m.name=true)(h3:¬ (m.args<0\/4<m.args\/m.temps<0\/6<m.temps))(h4:m.prim≠0):wmE n c m=1:=by unfold wmE;rw[if_neg (by simp[inR];omega),if_neg (by simp[h2]),if_neg (by simp[inR];omega),if_pos h4]
theorem xil {n:Nat}{c:Int}{m:QM}(h:¬ (c<0\/(n:Int)<=c))(h2:xbm m.name=true)(h3:¬ (m.args<0\/4<m.args\/m.temps<0\/6<m.temps))(h4:m.prim=0)(h5:m.code.length=0\/60<m.code.length):wmE n c m=5:=by unfold wmE;rw[if_neg (by simp[inR];omega),if_neg (by simp[h2]),if_neg (by simp[inR];omega),if_neg (by simp[h4]),if_pos (by simp[inR];omega)]
theorem xpy {n:Nat}{c:Int}{m:QM}(h:wmE n c m=0):¬ (c<0\/(n:Int)<=c)/\xbm m.name=true/\¬ (m.args<0\/4<m.args\/m.temps<0\/6<m.temps)/\m.prim=0/\¬ (m.code.length=0\/60<m.code.length):=by
 by_cases h1:c<0\/(n:Int)<=c
 ·rw[xpB h1] at h;cases h
 cases h2:xbm m.name
 ·rw[xlz h1 h2] at h;cases h
 by_cases h3:m.args<0\/4<m.args\/m.temps<0\/6<m.temps
 ·rw[xd9 h1 h2 h3] at h;cases h
 by_cases h4:m.prim=0
 ·by_cases h5:m.code.length=0\/60<m.code.length
  ·rw[xil h1 h2 h3 h4 h5] at h;cases h
  ·exact⟨h1,rfl,h3,h4,h5⟩
 ·rw[xkP h1 h2 h3 h4] at h;cases h
theorem xht (X:QW)(c:Int)(m:QM)(ad ah am:Option Addr)(cap ch cm:Nat)(w:World)(hcap:X.cz.length<=9000000000000000000)(hcm:m.code.length<=9000000000000000000)(hmn:m.name.size<=140737488351232)(v:Int)(hv:wmE X.cz.length c m=v)(h0:v≠0):Calls Tryz.prog 17 #[WV (.slice ad X.cz.length cap) (.slice ah X.heap.length ch) X.ez,.int .i64 c,MV m (.slice am m.code.length cm)] w fun e w'=>e=.returned (FV (v,0))/\Below w.heap.size w w':=by
 have HV:Hid (wmE X.cz.length c m=v):=hv;have H0:Hid (v≠0):=h0;clear hv h0;go_enter Tryz.func17,Tryz.ntmps17
 go_upto_region 1 with (fail)
 have hS:=xjm w X (.slice ad X.cz.length cap) (.slice ah X.heap.length ch) m (.slice am m.code.length cm);generalize (((w.alloc (Obj.cells #[Value.slice ad X.cz.length cap,Value.slice ah X.heap.length ch,Value.int .i64 X.ez] 25)).alloc (Obj.cells #[Value.string m.name,Value.int .i64 m.args,Value.int .i64 m.temps,Value.int .i64 m.prim,Value.slice am m.code.length cm] 59)).alloc (Obj.cells #[Value.int .i64 0,Value.int .i64 0] 75))=W0 at *;have a0:=hS.a0;have m0:=hS.m0;obtain⟨rc,rf⟩:=xpr hS.rb
 by_cases h1:c<0
 ·have HQ:Hid (c<0):=h1;go_wp2;refine bodyPost_ret (v:=FV (6,0)) ?_ rfl ⟨by rw[← HV.out,xpB (Or.inl HQ.out)],?_⟩
  ·simp[results,Tryz.results17,go_sem,rc,rf]
  ·first
    | exact ((hS.bel).setCell (by simp;omega) _).setCell (by simp;omega) _
    | exact hS.bel
 have h1':decide (c<0)=false:=by simpa using h1
 by_cases h2:(X.cz.length:Int)<=c
 ·have HQ:Hid ((X.cz.length:Int)<=c):=h2;go_wp2;refine bodyPost_ret (v:=FV (6,0)) ?_ rfl ⟨by rw[← HV.out,xpB (Or.inr HQ.out)],?_⟩
  ·simp[results,Tryz.results17,go_sem,rc,rf]
  ·first
    | exact ((hS.bel).setCell (by simp;omega) _).setCell (by simp;omega) _
    | exact hS.bel
 have h2':decide ((X.cz.length:Int)<=c)=false:=by simpa using h2
 have HC:Hid (¬ (c<0\/(X.cz.length:Int)<=c)):=fun h=>h.elim h1 h2
 go_wp2_with fail;refine (xdT m.name _ hmn).mono ?_;rintro e w1 ⟨rfl,hb⟩;replace hS:=hS.later hb;clear hb a0 m0 rc rf h1 h2 h1' h2';obtain⟨rc,rf⟩:=xpr hS.rb;have m1:=hS.m1;have m2:=hS.m2;have m3:=hS.m3;have m4:=hS.m4
 cases h3:xbm m.name
 ·have HQ:Hid (xbm m.name=false):=h3;go_wp2;refine bodyPost_ret (v:=FV (7,0)) ?_ rfl ⟨by rw[← HV.out,xlz (by have:=HC.out;omega) HQ.out],?_⟩
  ·simp[results,Tryz.results17,go_sem,rc,rf]
  ·first
    | exact ((hS.bel).setCell (by simp;omega) _).setCell (by simp;omega) _
    | exact hS.bel
 have HN:Hid (xbm m.name=true):=h3
 by_cases h4:m.args<0
 ·have HQ:Hid (m.args<0):=h4;go_wp2;refine bodyPost_ret (v:=FV (3,0)) ?_ rfl ⟨by rw[← HV.out,xd9 (by have:=HC.out;omega) HN.out (Or.inl HQ.out)],?_⟩
  ·simp[results,Tryz.results17,go_sem,rc,rf]
  ·first
    | exact ((hS.bel).setCell (by simp;omega) _).setCell (by simp;omega) _
    | exact hS.bel
 have h4':decide (m.args<0)=false:=by simpa using h4
 by_cases h5:4<m.args
 ·have HQ:Hid (4<m.args):=h5;go_wp2;refine bodyPost_ret (v:=FV (3,0)) ?_ rfl ⟨by rw[← HV.out,xd9 (by have:=HC.out;omega) HN.out (Or.inr (Or.inl HQ.out))],?_⟩
  ·simp[results,Tryz.results17,go_sem,rc,rf]
  ·first
    | exact ((hS.bel).setCell (by simp;omega) _).setCell (by simp;omega) _
    | exact hS.bel
 have h5':decide (4<m.args)=false:=by simpa using h5
 by_cases h6:m.temps<0
 ·have HQ:Hid (m.temps<0):=h6;go_wp2;refine bodyPost_ret (v:=FV (3,0)) ?_ rfl ⟨by rw[← HV.out,xd9 (by have:=HC.out;omega) HN.out (Or.inr (Or.inr (Or.inl HQ.out)))],?_⟩
  ·simp[results,Tryz.results17,go_sem,rc,rf]
  ·first
    | exact ((hS.bel).setCell (by simp;omega) _).setCell (by simp;omega) _
    | exact hS.bel
 have h6':decide (m.temps<0)=false:=by simpa using h6
 by_cases h7:6<m.temps
 ·have HQ:Hid (6<m.temps):=h7;go_wp2;refine bodyPost_ret (v:=FV (3,0)) ?_ rfl ⟨by rw[← HV.out,xd9 (by have:=HC.out;omega) HN.out (Or.inr (Or.inr (Or.inr HQ.out)))],?_⟩
  ·simp[results,Tryz.results17,go_sem,rc,rf]
  ·first
    | exact ((hS.bel).setCell (by simp;omega) _).setCell (by simp;omega) _
    | exact hS.bel
 have h7':decide (6<m.temps)=false:=by simpa using h7
 have HA:Hid (¬ (m.args<0\/4<m.args\/m.temps<0\/6<m.temps)):=by show ¬ _;omega
 by_cases h8:m.prim=0
 ·by_cases h9:m.code.length=0
  ·have HQ:Hid (m.prim=0/\m.code.length=0):=⟨h8,h9⟩;have h9':((m.code.length:Int) == 0)=true:=by simp[h9]
   have h8':(m.prim != 0)=false:=by simp[h8]
   clear h9 h8;go_wp2;refine bodyPost_ret (v:=FV (5,0)) ?_ rfl ⟨by rw[← HV.out,xil (by have:=HC.out;omega) HN.out (by have:=HA.out;omega) HQ.out.1 (Or.inl HQ.out.2)],?_⟩
   ·simp[results,Tryz.results17,go_sem,rc,rf]
   ·first
     | exact ((hS.bel).setCell (by simp;omega) _).setCell (by simp;omega) _
     | exact hS.bel
  ·by_cases h10:(60:Int)<(m.code.length:Int)
   ·have HQ:Hid (m.prim=0/\60<m.code.length):=⟨h8,by omega⟩
    have h9':((m.code.length:Int) == 0)=false:=beq_eq_false_iff_ne.2 (by omega)
    have h8':(m.prim != 0)=false:=by simp[h8]
    clear h9 h8;go_wp2;refine bodyPost_ret (v:=FV (5,0)) ?_ rfl ⟨by rw[← HV.out,xil (by have:=HC.out;omega) HN.out (by have:=HA.out;omega) HQ.out.1 (Or.inr HQ.out.2)],?_⟩
    ·simp[results,Tryz.results17,go_sem,rc,rf]
    ·first
      | exact ((hS.bel).setCell (by simp;omega) _).setCell (by simp;omega) _
      | exact hS.bel
   ·exfalso;have h1:=H0.out;have h2:=HV.out;have h3:=HC.out;have h4:=HN.out
    have:wmE X.cz.length c m=0:=by
     unfold wmE;rw[if_neg (by simp[inR];omega),if_neg (by simp[h4]),if_neg (by simp[inR];omega),if_neg (by simp[h8]),if_neg (by simp[inR];omega)]
    omega
 ·have HQ:Hid (m.prim≠0):=h8;have h8':(m.prim != 0)=true:=by simpa using h8
  go_wp2;refine bodyPost_ret (v:=FV (1,0)) ?_ rfl ⟨by rw[← HV.out,xkP (by have:=HC.out;omega) HN.out (by have:=HA.out;omega) (by have:=HQ.out;exact this)],?_⟩
  ·simp[results,Tryz.results17,go_sem,rc,rf]
  ·first
    | exact ((hS.bel).setCell (by simp;omega) _).setCell (by simp;omega) _
    | exact hS.bel
theorem xik {P:Nat->Prop}(X:QW)(c:Int)(m:QM)(cv hv mv:Value)(w:World)(hh:xaf P w cv X.cz)(hH:xaA P w hv X.heap)(hM:xaK P w mv m.code)(hmn:m.name.size<=140737488351232)(ho:xbJ X.cz)(h0:wmE X.cz.length c m=0)(R:Int × Int)(hR:(match xkc (xfm (xa8 X.cz c) X.cz.length m) 0 m.code with | some f=>f | none=>(xaM m.code).2)=R):Calls Tryz.prog 17 #[WV cv hv X.ez,.int .i64 c,MV m mv] w fun e w'=>e=.returned (FV R)/\Below w.heap.size w w':=by
 obtain⟨ad,cap,rfl,hl,hcap,hby,-⟩:=id hh;obtain⟨ah,ch,rfl⟩:=hH.get;obtain⟨am,cm,rfl,hl2,hcm,hcb,hrow⟩:=id hM;unfold maxLen at hcap hcm;obtain⟨hc1,hnb,hat,hpr,hcl⟩:=xpy h0
 have HB:Hid (∀ (j:Nat) x,m.code[j]?=some x->(∀ i y,i<j->m.code[i]?=some y->xfm (xa8 X.cz c) X.cz.length m y=0)->xfm (xa8 X.cz c) X.cz.length m x≠0->R=(xfm (xa8 X.cz c) X.cz.length m x,(j:Int))):=fun j x hx hi h=>by
  rw[← hR,xlJ (k:=0) hx h hi];simp
 have HG:Hid ((∀ (i:Nat) y,m.code[i]?=some y->xfm (xa8 X.cz c) X.cz.length m y=0)->R=(xaM m.code).2):=fun h=>by rw[← hR,xhE h]
 have HNR:Hid (∀ x:QI,xoS (xaR X.cz c) X.cz.length m x=xfm (xa8 X.cz c) X.cz.length m x):=fun x=>by
  have hsl:=xcn ho (X.cz.length+1) c 0 (by omega)
  have hs1:0<=xaR X.cz c:=hsl.1;have hs2:xaR X.cz c<=0+6*((X.cz.length+1:Nat):Int):=hsl.2;rw[xeX ho hby c]
  exact xnL (by omega) (xaq (by omega) (by omega))
 have ha:0<=m.args/\m.args<=4:=by omega
 have ht:0<=m.temps/\m.temps<=6:=by omega
 have h1':decide (c<0)=false:=by simp;omega
 have h2':decide ((X.cz.length:Int)<=c)=false:=by simp;omega
 have h4':decide (m.args<0)=false:=by simp;omega
 have h5':decide (4<m.args)=false:=by simp;omega
 have h6':decide (m.temps<0)=false:=by simp;omega
 have h7':decide (6<m.temps)=false:=by simp;omega
 have h8':(m.prim != 0)=false:=by simp[hpr]
 have h9':((m.code.length:Int) == 0)=false:=beq_eq_false_iff_ne.2 (by omega)
 have h10':decide ((60:Int)<(m.code.length:Int))=false:=by simp;omega
 clear hR h0 hpr hcl hat hc1;go_enter Tryz.func17,Tryz.ntmps17
 go_upto_region 1 with (fail)
 have hS:=xjm w X (.slice ad X.cz.length cap) (.slice ah X.heap.length ch) m (.slice am m.code.length cm);generalize (((w.alloc (Obj.cells #[Value.slice ad X.cz.length cap,Value.slice ah X.heap.length ch,Value.int .i64 X.ez] 25)).alloc (Obj.cells #[Value.string m.name,Value.int .i64 m.args,Value.int .i64 m.temps,Value.int .i64 m.prim,Value.slice am m.code.length cm] 59)).alloc (Obj.cells #[Value.int .i64 0,Value.int .i64 0] 75))=W0 at *;have a0:=hS.a0;have m0:=hS.m0;go_wp2_with fail;refine (xdT m.name _ hmn).mono ?_;rw[hnb];rintro e w1 ⟨rfl,hb⟩;replace hS:=hS.later hb;clear hb a0 m0 hnb;have m1:=hS.m1
 have m2:=hS.m2;have m3:=hS.m3;have m4:=hS.m4;go_wp2;clear m1 m2 m3 m4 h1' h2' h4' h5' h6' h7' h8' h9' h10';generalize hnE:xfm (xa8 X.cz c) X.cz.length m=NE at *
 go_loopg [64] m.code.length (fun g i wr=>∃ j:Nat,j+g=m.code.length/\i=.int .i64 j/\RkS w X (.slice ad X.cz.length cap) (.slice ah X.heap.length ch) m (.slice am m.code.length cm) wr/\(∀ i x,i<j->m.code[i]?=some x->NE x=0))
 case atStart=>exact⟨0,by omega,rfl,hS,fun i x h=>by omega⟩
 case round=>
  clear hS;obtain⟨j,hg,rfl,hS,hD⟩:=hrel;have HD:Hid (∀ i x,i<j->m.code[i]?=some x->NE x=0):=hD;clear hD
  by_cases hj:j<m.code.length
  ·have hj1:(j:Int)<(m.code.length:Int):=by omega
   have hj0:(0:Int)<=(j:Int):=by omega
   obtain⟨x,hx⟩:∃ x,m.code[j]?=some x:=⟨_,List.getElem?_eq_getElem hj⟩;obtain⟨b,o,rfl,-,v0,v1,v2,v3,v4,hxn⟩:=hrow j x hx;simp only[Nat.add_zero] at v0;replace v0:=qzA hS.bel v0;replace v1:=qzA hS.bel v1;replace v2:=qzA hS.bel v2;replace v3:=qzA hS.bel v3;replace v4:=qzA hS.bel v4;have HX:Hid (m.code[j]?=some x):=hx;clear hx;have hb4:=xaj wr (Obj.cells #[Value.int .i64 x.op,Value.int .i64 x.a,Value.int .i64 x.b,Value.int .i64 x.c,Value.string x.name] 57);have hS4:=hS.later hb4;have a0:=hS4.a0;have a1:=hS4.a1;have a2:=hS4.a2;have m0:=hS4.m0;have m1:=hS4.m1;have m2:=hS4.m2;have m3:=hS4.m3;have m4:=hS4.m4
   go_wp2_with fail;refine (xiE X c m x _ _ _ _ (hh.later xau hS4.bel) (hH.later xaz hS4.bel) (hM.later xaV hS4.bel) ho ha ht hxn).mono ?_;rintro e w2 ⟨rfl,hb⟩;rw[HNR.out];replace hS:=hS4.later hb;clear hS4 hb hb4 a0 a1 a2 m0 m1 m2 m3 m4 v0 v1 v2 v3 v4
   by_cases h2:NE x=0
   ·have HND:Hid (∀ i y,i<j+1->m.code[i]?=some y->NE y=0):=fun i y h hy=>by
     by_cases hij:i=j
     ·subst hij;rw[HX.out] at hy
      cases hy
      exact h2
     ·exact HD.out i y (by omega) hy
    rw[h2];clear h2;go_wp2
    go_roundg (gk-1)
    case measure=>omega
    case rel=>exact⟨j+1,by omega,by go_num,hS,HND.out⟩
   ·have HRR:Hid (R=(NE x,(j:Int))):=HB.out j x HX.out HD.out h2;clear HB HG HNR HD;obtain⟨rc,rf⟩:=xpr hS.rb;generalize NE x=nx at *;have h2':(nx != 0)=true:=by simpa using h2
    go_wp2;refine bodyPost_ret (v:=FV (nx,(j:Int))) ?_ rfl ⟨by rw[HRR.out],?_⟩
    ·simp[results,Tryz.results17,go_sem,rc,rf]
    ·exact ((hS.bel).setCell (by simp;omega) _).setCell (by simp;omega) _
  ·obtain rfl:j=m.code.length:=by omega
   have HRR:Hid (R=(xaM m.code).2):=HG.out fun i y hy=>HD.out i y (xag hy) hy
   have hso:xcW m.code:=fun x hx=>by
    obtain⟨i,hi,rfl⟩:=List.mem_iff_getElem.1 hx;have:=HD.out i _ hi (List.getElem?_eq_getElem hi);rw[← hnE] at this
    exact xdY this
   clear HB HG HNR HD hrow;have m0:=hS.m0;have m1:=hS.m1;have m2:=hS.m2;have m3:=hS.m3;have m4:=hS.m4;have hj1:(m.code.length:Int)<=(m.code.length:Int):=by omega
   go_wp2_with fail;refine (xfN m _ _ (hM.later xaV hS.bel) hso).mono ?_;rintro e w2 ⟨a,n,k,rfl,hb⟩;replace hS:=hS.later hb;clear hb m0 m1 m2 m3 m4;have hz:w.heap.size+1+1<w2.heap.size:=xai hS.rb;have rc:∀ z q,(w2.alloc z).cell? ⟨w.heap.size+1+1,q,none⟩=(#[Value.int .i64 0,.int .i64 0]:Array Value)[q]?:=fun z q=>by rw[qzB (xad hS.rb (xaj w2 z))]
   have rf:∀ z q,(w2.alloc z).frozen? ⟨w.heap.size+1+1,q,none⟩=false:=fun z q=>by unfold World.frozen?;simp[xad hS.rb (xaj w2 z)]
   generalize (xaM m.code).2=F at *;obtain⟨f1,f2⟩:=F;obtain⟨rc2,rf2⟩:=xpr hS.rb;obtain⟨sc0,sc1⟩:=xjB hS.rb (.int .i64 f1) (.int .i64 f2) (Obj.cells #[Value.int .i64 f1,Value.int .i64 f2] 75);have hne:¬ w2.heap.size=w.heap.size+1+1:=by omega
   have hne':¬ w.heap.size+1+1=w2.heap.size:=by omega
   go_wp2;refine bodyPost_ret (v:=FV (f1,f2)) ?_ rfl ⟨by rw[HRR.out],?_⟩
   ·simp[results,Tryz.results17,go_sem,rc,rf,rc2,rf2,hne,hne',sc0,sc1]
   ·first
     | exact ((xae hS.bel (xaj _ _)).setCell (by simp;omega) _).setCell (by simp;omega) _
     | exact (((hS.bel).setCell (by simp;omega) _).setCell (by simp;omega) _).alloc (by rw[xa3,xa3];omega) _
theorem xka {P:Nat->Prop}(X:QW)(c:Int)(m:QM)(cv hv mv:Value)(w:World)(hh:xaf P w cv X.cz)(hH:xaA P w hv X.heap)(hM:xaK P w mv m.code)(hmn:m.name.size<=140737488351232)(ho:xbJ X.cz):Calls Tryz.prog 17 #[WV cv hv X.ez,.int .i64 c,MV m mv] w fun e w'=>e=.returned (FV (xdB (xa8 X.cz c) X.cz.length c m))/\Below w.heap.size w w':=by
 unfold xdB
 by_cases h0:wmE X.cz.length c m=0
 ·rw[if_neg (by simp[h0])]
  exact xik X c m cv hv mv w hh hH hM hmn ho h0 _ rfl
 ·rw[if_pos h0];obtain⟨ad,cap,rfl,hl,hcap,hby,-⟩:=id hh;obtain⟨ah,ch,rfl⟩:=hH.get;obtain⟨am,cm,rfl,hl2,hcm,hcb,-⟩:=id hM
  exact xht X c m ad ah am cap ch cm w (by omega) (by omega) hmn _ rfl h0
end Go.Proofs.YtaodadfahifbpaaGreat
