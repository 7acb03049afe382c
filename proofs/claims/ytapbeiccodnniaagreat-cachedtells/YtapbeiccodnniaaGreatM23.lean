/- A part. -/
import Derived.Test.YtapbeiccodnniaaGreatM22
namespace Go.Proofs.YtapbeiccodnniaaGreat
open Go.ChangeShapes Go.WideShapes Go.ChangeAt Go.RowKit
set_option linter.unusedSimpArgs false
set_option linter.unusedVariables false
set_option maxHeartbeats 8000000
set_option maxRecDepth 8000
abbrev RowI (w:World)(base g k:Nat)(l:List Int):Prop:=w.ownsRow base 3 1 (.slice (some ⟨g,0,none⟩) l.length k) l.length (xcg l)
theorem RowI.lt {w:World}{base g k:Nat}{l:List Int}(h:RowI w base g k l):base<=g/\g<w.heap.size:=by
 obtain⟨-,⟨e,-⟩ | ⟨g',c,cur,e,h1,h2,-⟩⟩:=h
 ·cases e
 ·cases e;exact⟨h1,xaf h2⟩
theorem RowI.keep {w w':World}{base g k:Nat}{l:List Int}(h:RowI w base g k l)(hk:w'.heap[g]?=w.heap[g]?):RowI w' base g k l:=by
 obtain⟨h0,⟨e,-⟩ | ⟨g',c,cur,e,h1,h2,h3⟩⟩:=h
 ·cases e
 ·cases e;exact⟨h0,Or.inr ⟨g,k,cur,rfl,h1,hk.trans h2,h3⟩⟩
theorem RowI.cell {w:World}{base g k:Nat}{l:List Int}(h:RowI w base g k l){j:Nat}(hj:j<l.length):w.cell? ⟨g,j,none⟩=some (.int .i64 (l.getD j 0)):=by
 obtain⟨h0,⟨e,-⟩ | ⟨g',c,cur,e,h1,h2,h3,h4,h5,h6⟩⟩:=h
 ·cases e
 ·cases e
  have hq:(xcg l)[j]?=some (.int .i64 (l.getD j 0)):=by simp[xcg,hj]
  rw[qzB h2];rw[← h6,List.getElem?_take] at hq
  split at hq
  ·simpa using hq
  ·cases hq
structure Two (w:World)(base gA kA gB kB:Nat)(A B:List Int):Prop where
 a:RowI w base gA kA A
 b:RowI w base gB kB B
 ne:gA≠gB
theorem Two.keep {w w':World}{base gA kA gB kB:Nat}{A B:List Int}(h:Two w base gA kA gB kB A B)(hb:∀ b,base<=b->b<w.heap.size->w'.heap[b]?=w.heap[b]?):Two w' base gA kA gB kB A B:=
 ⟨h.a.keep (hb _ h.a.lt.1 h.a.lt.2),h.b.keep (hb _ h.b.lt.1 h.b.lt.2),h.ne⟩
theorem Two.later {w w':World}{base gA kA gB kB:Nat}{A B:List Int}(h:Two w base gA kA gB kB A B)(hb:Below w.heap.size w w'):Two w' base gA kA gB kB A B:=h.keep fun b _ hl=>hb.block b hl
theorem Two.first {w w2:World}{base gA kA gB kB gg cap2:Nat}{A B:List Int}{X:Obj}{t:Int}(h:Two w base gA kA gB kB A B)(hown:w2.ownsRow base 3 1 (.slice (some ⟨gg,0,none⟩) (A.length+1) cap2) (A.length+1) (xcg A++[.int .i64 t]))(hgr:(w.alloc X).grownBy w2 (Value.ownBlock (.slice (some ⟨gA,0,none⟩) A.length kA)))(hor:(Value.ownBlock (.slice (some ⟨gA,0,none⟩) A.length kA))=some gg\/gg=(w.alloc X).heap.size)(hbase:base<=w.heap.size):Two w2 base gg cap2 gB kB (A++[t]) B/\Below base w w2:=by
 have hne:=h.ne;have hbl:=h.b.lt;have hal:=h.a.lt
 simp[Value.ownBlock] at hor
 refine⟨⟨?_,(h.b.keep ((xaj w X).block _ hbl.2)).keep (hgr.block gB (by simp;omega) (by simp[Value.ownBlock];omega)),by omega⟩,?_⟩
 ·show w2.ownsRow base 3 1 (.slice (some ⟨gg,0,none⟩) (A++[t]).length cap2) (A++[t]).length (xcg (A++[t]))
  simpa [xcg] using hown
 ·exact ((qzL base w).alloc hbase X).grown hgr (by simp;omega) fun k hk=>by simp[Value.ownBlock] at hk;omega
theorem Two.swap {w:World}{base gA kA gB kB:Nat}{A B:List Int}(h:Two w base gA kA gB kB A B):Two w base gB kB gA kA B A:=⟨h.b,h.a,Ne.symm h.ne⟩
structure RefH (w W0:World)(code:List QI)(gA kA gB kB:Nat)(A B h:List Int)(wr:World):Prop where
 two:Two wr (w.heap.size+3) gA kA gB kB A B
 row:wr.heap[w.heap.size+1+1]?=some (xiz h)
 bel:Below (w.heap.size+2) W0 wr
 size:w.heap.size+3<=wr.heap.size
 len:A.length=B.length
theorem RefH.later {w W0:World}{code:List QI}{gA kA gB kB:Nat}{A B h:List Int}{wr w':World}(hS:RefH w W0 code gA kA gB kB A B h wr)(hb:Below wr.heap.size wr w'):RefH w W0 code gA kA gB kB A B h w':=
 ⟨hS.two.later hb,xac hS.row hb,hS.bel.trans (hb.mono (by have:=hS.size;omega)),qzD hS.size hb.size,hS.len⟩
theorem xmq {A B:List Int}(hl:A.length=B.length){k:Nat}(hk:k<A.length):(A.zip B).drop k=(A.getD k 0,B.getD k 0) :: (A.zip B).drop (k+1):=by
 have h1:k<(A.zip B).length:=by simp;omega
 rw[List.drop_eq_getElem_cons h1]
 congr 1
 simp[show k<B.length by omega,hk]
theorem xmf {A B:List Int}(hl:A.length=B.length){k:Nat}(hk:k<=A.length)(l:List Int)(v:Int):((A++l).zip (B++l.map fun _=>v)).drop k=(A.zip B).drop k++l.map fun t=>(t,v):=by
 rw[List.zip_append hl,List.drop_append_of_le_length (by simp;omega)]
 congr 1
 induction l with
 | nil=>rfl
 | cons a r ih=>simp[ih]
theorem xg0 {P:Nat->Prop}(m:QM)(mv:Value)(w:World)(hc:xa5 P w mv m.code)(hs:xc5 m.code):Calls Tryz.prog 38 #[MV m mv] w fun e w'=>xiY w m.code e w':=by
 obtain⟨ad,cap,rfl,hcl,hcap,hcb,hrow⟩:=id hc;unfold maxLen at hcap;obtain⟨i0,hi,hz0,hz1,hz2⟩:=xa3 xh7;have hmi:=xkC m.code.length (by omega)
 go_enter Tryz.func38,Tryz.ntmps38;go_wp2;generalize hW0:((w.alloc (Obj.cells #[Value.string m.name,Value.int .i64 m.args,Value.int .i64 m.temps,Value.int .i64 m.prim,Value.slice ad m.code.length cap] 59)).alloc (Obj.cells #[Value.int .i64 0,Value.int .i64 0] 61))=W0 at *;have hs0:W0.heap.size=w.heap.size+1+1:=by rw[← hW0];simp
 have hbW:Below w.heap.size w W0:=by rw[← hW0];exact xca _ _ _
 have mb:W0.heap[w.heap.size]?=some (.cells #[Value.string m.name,Value.int .i64 m.args,Value.int .i64 m.temps,Value.int .i64 m.prim,Value.slice ad m.code.length cap] 59 (0,0)):=by rw[← hW0,(xaj _ _).block _ (by simp)];exact xba _ _ _ rfl
 have rb:W0.heap[w.heap.size+1]?=some (.cells #[Value.int .i64 0,Value.int .i64 0] 61 (0,0)):=by rw[← hW0];exact xba _ _ _ (by simp)
 clear hW0
 go_loopg [22] m.code.length (fun g i wr=>∃ j:Nat,j+g=m.code.length/\i=.int .i64 j/\Below (w.heap.size+2) W0 wr/\wr.heap.size=w.heap.size+3/\wr.heap[w.heap.size+1+1]?=some (xiz (List.replicate j (-1)++List.replicate (m.code.length-j) 0)))
 case atStart=>exact⟨0,by omega,rfl,(xaj _ _).mono (by omega),by simp[hs0],by simpa using xba W0 (xiz (List.replicate m.code.length 0)) _ hs0⟩
 case round=>
  obtain⟨j,hg,rfl,hb,hz,hr⟩:=hrel
  by_cases hj:j<m.code.length
  ·have hj1:(j:Int)<(m.code.length:Int):=by omega
   have hj0:(0:Int)<=(j:Int):=by omega
   have hcell:=xgV hr (k:=j) (by simp;omega)
   have hfree:=xgL hr j;have hset:=xi3 hr j (-1);rw[xl4 hj] at hset;generalize (List.replicate j (-1:Int)++List.replicate (m.code.length-j) 0).getD j 0=u at hcell;go_wp2
   go_roundg (gk-1)
   case measure=>omega
   case rel=>exact⟨j+1,by omega,by go_num,hb.setCell (by show w.heap.size+2<=w.heap.size+1+1;omega) _,by rw[xbg];exact hz,hset⟩
  ·obtain rfl:j=m.code.length:=by omega
   have hr':wr.heap[w.heap.size+1+1]?=some (xiz (xcS m.code.length)):=by simpa [xcS] using hr
   clear hr;have hj1:(m.code.length:Int)<=(m.code.length:Int):=by omega
   have hb2:=xca wr (Obj.cells #[Value.int .i64 0] 3) (Obj.cells #[Value.int .i64 0] 3)
   have hT:Two ((wr.alloc (Obj.cells #[Value.int .i64 0] 3)).alloc (Obj.cells #[Value.int .i64 0] 3)) (w.heap.size+3) (w.heap.size+3) 1 (w.heap.size+3+1) 1 [0] [0]:=
    ⟨⟨rfl,Or.inr ⟨_,1,#[Value.int .i64 0],rfl,qzC _,((xaj _ _).block _ (by simp[hz])).trans (xba _ _ _ hz),by simp,by unfold maxLen;omega,rfl,rfl⟩⟩,
     ⟨rfl,Or.inr ⟨_,1,#[Value.int .i64 0],rfl,by omega,xba _ _ _ (by simp[hz]),by simp,by unfold maxLen;omega,rfl,rfl⟩⟩,by omega⟩
   have hS:RefH w W0 m.code (w.heap.size+3) 1 (w.heap.size+3+1) 1 [0] [0] (xcS m.code.length) ((wr.alloc (Obj.cells #[Value.int .i64 0] 3)).alloc (Obj.cells #[Value.int .i64 0] 3)):=
    ⟨hT,xac hr' hb2,hb.trans (hb2.mono (by omega)),by simp[hz],rfl⟩
   go_wp2
   go_loopg [6,7,8] (2*m.code.length+1) (fun g va vb kk wr=>∃ (gA kA gB kB:Nat) (A B h:List Int) (k:Nat),va=.slice (some ⟨gA,0,none⟩) A.length kA/\vb=.slice (some ⟨gB,0,none⟩) B.length kB/\kk=.int .i64 k/\k+g<=2*m.code.length+1/\k<=A.length/\xhD m.code g h ((A.zip B).drop k)=xaH m.code/\HInv m.code h ((A.zip B).drop k)/\xec h ((A.zip B).drop k)<=g/\RefH w W0 m.code gA kA gB kB A B h wr)
   case atStart=>exact⟨w.heap.size+3,1,w.heap.size+3+1,1,[0],[0],_,0,by simp[hz],by simp[hz],rfl,by omega,by simp,rfl,HInv.start _,Nat.le_of_eq (xfe _),hS⟩
   case round=>
    obtain⟨gA,kA,gB,kB,A,B,h,k,rfl,rfl,rfl,hkg,hkA,hR,hI,hL,hS⟩:=hrel;clear hT hb2 hr' hb hz;have HLEN:Hid (A.length=B.length):=hS.len
    by_cases hk:k<A.length
    ·have hzd:=xmq HLEN.out hk;rw[hzd] at hR hI hL;obtain⟨g',rfl⟩:∃ g',gk=g'+1:=⟨gk-1,by simp[xec] at hL;omega⟩
     have HR:Hid (xhD m.code (g'+1) h ((A.getD k 0,B.getD k 0) :: (A.zip B).drop (k+1))=xaH m.code):=hR;have HI:Hid (HInv m.code h ((A.getD k 0,B.getD k 0) :: (A.zip B).drop (k+1))):=hI;have HL:Hid (xec h ((A.getD k 0,B.getD k 0) :: (A.zip B).drop (k+1))<=g'+1):=hL;have hw:=hI.wait _ (List.mem_cons_self ..);have hhl:=hI.len;simp only at hw;clear hR hI hL hzd;have ca:=hS.two.a.cell hk;have cb:=hS.two.b.cell (j:=k) (by have:=HLEN.out;omega)
     obtain⟨p,hp⟩:∃ p,p=A.getD k 0:=⟨_,rfl⟩;obtain⟨n,hn⟩:∃ n,n=B.getD k 0:=⟨_,rfl⟩;rw[← hp] at ca HR HI HL;rw[← hn] at cb HR HI HL hw;clear hp hn;have hk0:(0:Int)<=(k:Int):=by omega
     have hk1:(k:Int)<(A.length:Int):=by omega
     have hk2:(k:Int)<(B.length:Int):=by have:=HLEN.out;omega
     go_wp2
     go_quiet (fail)
     replace hS:=hS.later (below_drewN (qzL _ _) nq);clear ca cb;generalize wr.drewN nq=wq at *;have hbq:Below w.heap.size w wq:=hbW.trans (hS.bel.mono (by omega))
     have mq:wq.heap[w.heap.size]?=some (.cells #[Value.string m.name,Value.int .i64 m.args,Value.int .i64 m.temps,Value.int .i64 m.prim,Value.slice ad m.code.length cap] 59 (0,0)):=(hS.bel.block _ (by omega)).trans mb
     have rq:wq.heap[w.heap.size+1]?=some (.cells #[Value.int .i64 0,Value.int .i64 0] 61 (0,0)):=(hS.bel.block _ (by omega)).trans rb
     have mc:wq.cell? ⟨w.heap.size,4,none⟩=some (.slice ad m.code.length cap):=by rw[qzB mq];rfl
     obtain⟨rc,rf⟩:(∀ q,wq.cell? ⟨w.heap.size+1,q,none⟩=(#[Value.int .i64 0,.int .i64 0]:Array Value)[q]?)/\(∀ o,wq.frozen? ⟨w.heap.size+1,o,none⟩=false):=⟨fun q=>by rw[qzB rq],fun o=>by unfold World.frozen?;simp[rq]⟩
     have hfault:Hid (∀ (f:Int × Int) (W:World),xcM m.code h (p,n)=.inl f->Below w.heap.size w W->xiY w m.code (.returned (.tuple #[.slice none 0 0,FV f])) W):=fun f W hst hb=>by
      have HE:xaH m.code=([],f):=by rw[← HR.out];unfold xhD;rw[hst]
      exact⟨hb,Or.inr ⟨by rw[HE];exact xeT hst,by rw[HE]⟩⟩
     have hbs:∀ (W:World) (u v:Value),Below w.heap.size w W->Below w.heap.size w ((W.setCell ⟨w.heap.size+1,0,none⟩ u).setCell ⟨w.heap.size+1,1,none⟩ v):=fun W u v hb=>(hb.setCell (by show w.heap.size<=w.heap.size+1;omega) _).setCell (by show w.heap.size<=w.heap.size+1;omega) _
     have HBS:=(show Hid (∀ (W:World) (u v:Value),Below w.heap.size w W->Below w.heap.size w ((W.setCell ⟨w.heap.size+1,0,none⟩ u).setCell ⟨w.heap.size+1,1,none⟩ v)) from hbs)
     clear hbs
     cases hx:xc3 m.code p with
     | none=>
      have hst:xcM m.code h (p,n)=.inl (9,(m.code.length:Int)):=by unfold xcM;simp only[hx]
      have HF:=hfault.out _ (((wq.setCell ⟨w.heap.size+1,0,none⟩ (.int .i64 9)).setCell ⟨w.heap.size+1,1,none⟩ (.int .i64 m.code.length))) hst (HBS.out _ _ _ hbq);have HF2:=hfault.out _ (((wq.setCell ⟨w.heap.size+1,0,none⟩ (.int .i64 9)).setCell ⟨w.heap.size+1,1,none⟩ (.int .i64 m.code.length))).drew hst (HBS.out _ _ _ hbq).drew;rw[xgS] at hx
      by_cases hpl:(m.code.length:Int)<=p
      ·go_wp2
       go_region
       all_goals go_wp2
       all_goals refine qzK (v:=.tuple #[.slice none 0 0,FV (9,m.code.length)]) ?_ rfl ?_
       all_goals first
        | (simp[results,Tryz.results38,go_sem,rc,rf];done)
        | exact HF
        | exact HF2
      ·have hpl':decide ((m.code.length:Int)<=p)=false:=by simpa using hpl
       have hp0:p<0:=by omega
       go_wp2
       go_region
       all_goals go_wp2
       all_goals refine qzK (v:=.tuple #[.slice none 0 0,FV (9,m.code.length)]) ?_ rfl ?_
       all_goals first
        | (simp[results,Tryz.results38,go_sem,rc,rf];done)
        | exact HF
        | exact HF2
     | some x=>
      obtain⟨q,rfl,hxq⟩:=xdp hx;have hq:=xae hxq;have hq0:(0:Int)<=(q:Int):=by omega
      have hq1:(q:Int)<(m.code.length:Int):=by omega
      have hq2:decide ((m.code.length:Int)<=(q:Int))=false:=by simp;omega
      have hcell:=xgV hS.row (k:=q) (by omega)
      have hfree:=xgL hS.row q;have hsx:=hs x (List.mem_of_getElem? hxq);obtain⟨bc,oc,rfl,-,e0,e1,e2,e3,e4,-⟩:=hrow q x hxq;simp only[Nat.add_zero] at e0;have hbc:=World.block_lt_of_cell? _ _ e0;simp only at hbc;obtain⟨u,hu⟩:∃ u,u=h.getD q 0:=⟨_,rfl⟩
      have hst0:Hid (xcM m.code h ((q:Int),n)=if 0<=u then (if u≠n then .inl (8,(q:Int)) else .inr (h,[])) else if n<(xaN x q).need\/x.op=17/\n≠1 then .inl (8,(q:Int)) else if 12<n+(xaN x q).more then .inl (4,(q:Int)) else .inr (h.set q n,(xaN x q).next.map fun t=>(t,n+(xaN x q).more))):=by
       show _=_
       unfold xcM;simp only[hx,Int.toNat_natCast];rw[← hu]
      rw[← hu] at hcell;clear hu hx
      by_cases hv0:0<=u
      ·by_cases hv1:u=n
       ·have hst:xcM m.code h ((q:Int),n)=.inr (h,[]):=by rw[hst0.out,if_pos hv0,if_neg (by simpa using hv1)]
        obtain⟨k1,k2⟩:=HI.out.step hs hst
        have K3:Hid (xhD m.code g' h ((A.zip B).drop (k+1))=xaH m.code):=by
         show _=_
         rw[← HR.out]
         conv=>rhs;unfold xhD;rw[hst]
         simp
        have k4:=HL.out;rw[List.append_nil] at k1 k2;have K1:Hid (HInv m.code h ((A.zip B).drop (k+1))):=k1;have K2:Hid (xec h ((A.zip B).drop (k+1))<=g'):=by show _<=_;omega
        subst hv1;clear k1 k2 k4;go_wp2
        go_roundg g'
        case measure=>omega
        case rel=>exact⟨gA,kA,gB,kB,A,B,h,k+1,rfl,rfl,by go_num,by omega,by omega,K3.out,K1.out,K2.out,hS⟩
       ·have hst:xcM m.code h ((q:Int),n)=.inl (8,(q:Int)):=by rw[hst0.out,if_pos hv0,if_pos hv1]
        have HF:=hfault.out _ _ hst (HBS.out wq (.int .i64 8) (.int .i64 q) hbq);have hv1':(u != n)=true:=by simpa using hv1
        go_wp2;refine qzK (v:=.tuple #[.slice none 0 0,FV (8,(q:Int))]) ?_ rfl HF
        simp[results,Tryz.results38,go_sem,rc,rf]
      ·have hv0':decide (0<=u)=false:=by simpa using hv0
       have hS1:RefH w W0 m.code gA kA gB kB A B (h.set q n) (wq.setCell ⟨w.heap.size+1+1,q,none⟩ (.int .i64 n)):=by
        have hsz:=hS.size;refine⟨hS.two.keep fun b h1 _=>xab (by omega) _,xi3 hS.row q n,hS.bel.setCell (by show w.heap.size+2<=w.heap.size+1+1;omega) _,by rw[xbg];exact hS.size,hS.len⟩
       have rq1:(wq.setCell ⟨w.heap.size+1+1,q,none⟩ (.int .i64 n)).heap[w.heap.size+1]?=some (.cells #[Value.int .i64 0,Value.int .i64 0] 61 (0,0)):=(xab (by omega) _).trans rq
       have mq1:(wq.setCell ⟨w.heap.size+1+1,q,none⟩ (.int .i64 n)).heap[w.heap.size]?=_:=(xab (by omega) _).trans mq
       have mc1:(wq.setCell ⟨w.heap.size+1+1,q,none⟩ (.int .i64 n)).cell? ⟨w.heap.size,4,none⟩=some (.slice (some ⟨bc,oc,none⟩) m.code.length cap):=by rw[qzB mq1];rfl
       have hbq1:Below w.heap.size w (wq.setCell ⟨w.heap.size+1+1,q,none⟩ (.int .i64 n)):=hbq.setCell (by show w.heap.size<=w.heap.size+1+1;omega) _
       have j0:=qzA hbq1 e0;have j1:=qzA hbq1 e1;have j2:=qzA hbq1 e2;have j3:=qzA hbq1 e3;have j4:=qzA hbq1 e4;go_wp2_with fail;clear mc hcell hfree rc rf rq mq hS j0 j1 j2 j3 j4 hbq mc1;generalize (wq.setCell ⟨w.heap.size+1+1,q,none⟩ (.int .i64 n))=w5 at *;refine (xlr x q _ hsx (xaE (by omega) (by omega))).mono ?_
       rintro e w6 ⟨an,kn,rfl,hIn,hb6⟩;have hrg:=xdI hsx q;generalize hNX:xaN x q=NX at *;obtain⟨need,more,next⟩:=NX;simp only at hrg hIn;have hbq6:=xah hbq1 hb6;have mq6:=xac mq1 hb6;have mc6:w6.cell? ⟨w.heap.size,4,none⟩=some (.slice (some ⟨bc,oc,none⟩) m.code.length cap):=by rw[qzB mq6];rfl
       have rq6:=xac rq1 hb6;obtain⟨rc,rf⟩:(∀ q,w6.cell? ⟨w.heap.size+1,q,none⟩=(#[Value.int .i64 0,.int .i64 0]:Array Value)[q]?)/\(∀ o,w6.frozen? ⟨w.heap.size+1,o,none⟩=false):=⟨fun q=>by rw[qzB rq6],fun o=>by unfold World.frozen?;simp[rq6]⟩
       have op6:=qzA hbq6 e0;have hS6:=hS1.later hb6;have hsum:IntKind.i64.wrap (n+more)=n+more:=xaE (by omega) (by omega)
       have hst1:Hid (xcM m.code h ((q:Int),n)=if n<need\/x.op=17/\n≠1 then .inl (8,(q:Int)) else if 12<n+more then .inl (4,(q:Int)) else .inr (h.set q n,next.map fun t=>(t,n+more))):=by
        show _=_
        rw[hst0.out,if_neg (by omega)]
       clear hst0
       by_cases c1:n<need
       ·have hst:xcM m.code h ((q:Int),n)=.inl (8,(q:Int)):=by rw[hst1.out,if_pos (Or.inl c1)]
        have HF:=hfault.out _ _ hst (HBS.out w6 (.int .i64 8) (.int .i64 q) hbq6);go_wp2;refine qzK (v:=.tuple #[.slice none 0 0,FV (8,(q:Int))]) ?_ rfl HF
        simp[results,Tryz.results38,go_sem,rc,rf]
       ·have c1':decide (n<need)=false:=by simpa using c1
        by_cases c2:x.op=17/\n≠1
        ·have hst:xcM m.code h ((q:Int),n)=.inl (8,(q:Int)):=by rw[hst1.out,if_pos (Or.inr c2)]
         have HF:=hfault.out _ _ hst (HBS.out w6 (.int .i64 8) (.int .i64 q) hbq6);have c3:=c2.1;have c4:(n != 1)=true:=by simpa using c2.2
         clear c2;go_wp2;refine qzK (v:=.tuple #[.slice none 0 0,FV (8,(q:Int))]) ?_ rfl HF
         simp[results,Tryz.results38,go_sem,rc,rf]
        ·have HNO:Hid (¬ (n<need\/x.op=17/\n≠1)):=fun h=>h.elim c1 c2
         have hsel:(x.op == 17)=false\/(x.op == 17)=true/\(n != 1)=false:=by
          by_cases h17:x.op=17
          ·right;refine⟨by simpa using h17,?_⟩
           have:n=1:=Classical.byContradiction fun h=>c2 ⟨h17,h⟩
           simp[this]
          ·left;simpa using h17
         clear c2;obtain⟨go,hgo⟩:∃ go,go=g':=⟨_,rfl⟩
         go_upto_region 19 with (fail)
         go_cut [101] (fun s101 wx=>s101=.bool false/\w6=wx)
         case first=>
          rcases hsel with hsel | ⟨hsel,hsel2⟩
          all_goals
           go_wp2_with fail
           go_meet
           case rel=>exact⟨rfl,rfl⟩
         case rest=>
          obtain⟨rfl,rfl⟩:=hcut
          by_cases c5:12<n+more
          ·have hst:xcM m.code h ((q:Int),n)=.inl (4,(q:Int)):=by rw[hst1.out,if_neg HNO.out,if_pos c5]
           have HF:=hfault.out _ _ hst (HBS.out w6 (.int .i64 4) (.int .i64 q) hbq6);go_wp2;refine qzK (v:=.tuple #[.slice none 0 0,FV (4,(q:Int))]) ?_ rfl HF
           simp[results,Tryz.results38,go_sem,rc,rf]
          ·have c5':decide (12<n+more)=false:=by simpa using c5
           have hst:xcM m.code h ((q:Int),n)=.inr (h.set q n,next.map fun t=>(t,n+more)):=by rw[hst1.out,if_neg HNO.out,if_neg c5]
           obtain⟨k1,k2⟩:=HI.out.step hs hst;have k4:=HL.out;have hzm:=xmf HLEN.out (k:=k+1) (by omega) next (n+more)
           have K3:Hid (xhD m.code g' (h.set q n) (((A++next).zip (B++next.map fun _=>n+more)).drop (k+1))=xaH m.code):=by
            show _=_
            rw[← HR.out,hzm]
            conv=>rhs;unfold xhD;rw[hst]
           have K1:Hid (HInv m.code (h.set q n) (((A++next).zip (B++next.map fun _=>n+more)).drop (k+1))):=by show HInv _ _ _;rw[hzm];exact k1
           have K2:Hid (xec (h.set q n) (((A++next).zip (B++next.map fun _=>n+more)).drop (k+1))<=g'):=by show _<=_;rw[hzm];omega
           have hAl:A.length<=2*m.code.length+1:=by
            have e1:((A.zip B).drop (k+1)).length+(k+1)=A.length:=by have:=HLEN.out;simp;omega
            simp[xec] at k4
            simp at e1
            have:=HLEN.out
            omega
           clear hst k1 k2 k4 hzm HR HI HL hfault;obtain⟨an',kn',en,hin1,hin2,hin3,hin4⟩:=id hIn;simp only[Value.slice.injEq] at en;obtain⟨rfl,-,rfl⟩:=en;unfold maxLen at hin2;have hgA:=hS1.two.a.lt;have hgB:=hS1.two.b.lt;have hs56:=hb6.size;have hnl:next.length<=2:=hrg.2.2.2.2.2;go_wp2
           go_loopg [6,7,112] next.length (fun g2 va vb ii wi=>∃ (i gA kA gB kB:Nat),i+g2=next.length/\ii=.int .i64 i/\va=.slice (some ⟨gA,0,none⟩) (A++next.take i).length kA/\vb=.slice (some ⟨gB,0,none⟩) (B++(next.take i).map fun _=>n+more).length kB/\RefH w W0 m.code gA kA gB kB (A++next.take i) (B++(next.take i).map fun _=>n+more) (h.set q n) wi/\Keeps (fun b=>w5.heap.size<=b/\b<w6.heap.size) w6 wi/\(gA<w5.heap.size\/w6.heap.size<=gA)/\(gB<w5.heap.size\/w6.heap.size<=gB)/\w6.heap.size<=wi.heap.size)
           case atStart=>exact⟨0,gA,kA,gB,kB,by omega,rfl,by simp,by simp,by simpa using hS6,Keeps.refl _ _,Or.inl hgA.2,Or.inl hgB.2,qzC _⟩
           case round=>
            obtain⟨i,gA,kA,gB,kB,hik,rfl,rfl,rfl,hSi,hKi,hgAi,hgBi,hszi⟩:=hrel
            by_cases hil:i<next.length
            ·have hi1:(i:Int)<(next.length:Int):=by omega
             have hi0:(0:Int)<=(i:Int):=by omega
             obtain⟨b2,o2,rfl,hb2,hv⟩:=hin4 i next[i] (List.getElem?_eq_getElem hil);have hv':w6.cell? ⟨b2,o2+i*1+0,none⟩=some (.int .i64 next[i]):=hv;simp only[Nat.mul_one,Nat.add_zero] at hv';have hv2:=hKi _ _ _ ⟨hb2,World.block_lt_of_cell? _ _ hv'⟩ hv';have ht:next.take (i+1)=next.take i++[next[i]]:=by rw[List.take_add_one,List.getElem?_eq_getElem hil];rfl
             have HT:Hid (next.take (i+1)=next.take i++[next[i]]):=ht;have hti:(next.take i).length=i:=by rw[List.length_take];omega
             have hlA:(A++next.take i).length<=2*m.code.length+3:=by rw[List.length_append,hti];omega
             have hlB:(B++(next.take i).map fun _=>n+more).length<=2*m.code.length+3:=by rw[List.length_append,List.length_map,hti];have:=HLEN.out;omega
             have hsz:=hSi.size;generalize next[i]=t at *;have HAi:Hid (A++next.take (i+1)=(A++next.take i)++[t]):=by show _=_;rw[HT.out,List.append_assoc]
             have HBi:Hid (B++(next.take (i+1)).map (fun _=>n+more)=(B++(next.take i).map fun _=>n+more)++[n+more]):=by show _=_;rw[HT.out,List.map_append,List.append_assoc];rfl
             generalize A++next.take i=A1 at *;generalize (B++(next.take i).map fun _=>n+more)=B1 at *
             clear hv ht hti hv';have hTi:=hSi.two;have hkk:∀ {W W':World} {g:Nat},(g<w5.heap.size\/w6.heap.size<=g)->w6.heap.size<=W.heap.size->(∀ b,b<W.heap.size->b≠g->W'.heap[b]?=W.heap[b]?)->Keeps (fun b=>w5.heap.size<=b/\b<w6.heap.size) W W':=fun hg hs' h=>Keeps.of_block fun b hb hl=>h b hl (by omega)
             go_wp2_with (first
              | (at_builtin;refine wpList_append_lies _ rfl (.tmp 116) (.tmp 118) 87 rfl (w.heap.size+3) 3 i0 _ 1 8 Tryz.underlying87 hi hz0 hz1 hz2 rfl (by decide) (.slice (some ⟨gA,0,none⟩) A1.length kA) A1.length (xcg A1) rfl (hTi.a.alloc _) ⟨_,0,none⟩ 1 1 [.int .i64 t] rfl rfl (fun j u hu=>(by rw[Addr.add_lit,Nat.zero_add];exact (xaa wr _ 3 _ rfl j).trans (by simpa using hu))) (by intro u hu;simp at hu;subst hu;rfl) (by omega) (by unfold maxLen;omega) (by omega) (by simp;omega) _ rfl ?_;intro g2 c2 w2 hown2 hgr2 hor2 hlt2;have hT2:=hTi.first hown2 hgr2 hor2 hsz;have hs2:=hT2.2.size)
              | (at_builtin;refine wpList_append_lies _ rfl (.tmp 120) (.tmp 124) 87 rfl (w.heap.size+3) 3 i0 _ 1 8 Tryz.underlying87 hi hz0 hz1 hz2 rfl (by decide) (.slice (some ⟨gB,0,none⟩) B1.length kB) B1.length (xcg B1) rfl (hT2.1.b.alloc _) ⟨_,0,none⟩ 1 1 [.int .i64 (n+more)] rfl rfl (fun j u hu=>(by rw[Addr.add_lit,Nat.zero_add];exact (xaa w2 _ 3 _ rfl j).trans (by simpa using hu))) (by intro u hu;simp at hu;subst hu;rfl) (by omega) (by unfold maxLen;omega) (by omega) (by simp;omega) _ rfl ?_;intro g3 c3 w3 hown3 hgr3 hor3 hlt3;have hT3:=hT2.1.swap.first hown3 hgr3 hor3 (by omega)))
             have hs3:=hT3.2.size;have hne:=hTi.ne
             simp[Value.ownBlock] at hor2 hor3
             have hK2:Keeps (fun b=>w5.heap.size<=b/\b<w6.heap.size) wr w2:=hkk hgAi hszi fun b hb hb'=>(hgr2.block b (by simp;omega) (by simp[Value.ownBlock];omega)).trans ((xaj _ _).block b hb)
             have hK3:Keeps (fun b=>w5.heap.size<=b/\b<w6.heap.size) w2 w3:=hkk hgBi (by omega) fun b hb hb'=>(hgr3.block b (by simp;omega) (by simp[Value.ownBlock];omega)).trans ((xaj _ _).block b hb)
             have hl1:=hSi.len
             go_roundg (gk-1)
             case measure=>omega
             case rel=>
              refine⟨i+1,g2,c2,g3,c3,by omega,by go_num,by rw[HAi.out];simp,by rw[HBi.out];simp,?_,(hKi.trans hK2).trans hK3,by omega,by omega,by omega⟩
              rw[HAi.out,HBi.out]
              exact⟨hT3.1.swap,((hT2.2.trans hT3.2).block _ (by omega)).trans hSi.row,hSi.bel.trans ((hT2.2.trans hT3.2).mono (by omega)),by omega,by simp;exact hl1⟩
            ·obtain rfl:i=next.length:=by omega
             have hi1:(next.length:Int)<=(next.length:Int):=by omega
             rw[List.take_length] at hSi;simp only[List.take_length];go_wp2
             go_roundg go
             case measure=>omega
             case rel=>exact⟨gA,kA,gB,kB,A++next,B++next.map fun _=>n+more,h.set q n,k+1,by simp,by simp,by go_num,by omega,by simp;omega,by rw[hgo];exact K3.out,K1.out,by rw[hgo];exact K2.out,hSi⟩
    ·have hkeq:k=A.length:=by omega
     have HE:Hid (xaH m.code=(h,(0,0))):=by
      show _=_
      rw[← hR,List.drop_eq_nil_of_le (by have:=HLEN.out;simp;omega)]
      cases gk<;>rfl
     clear hR hI hL;have hk1:(A.length:Int)<=(k:Int):=by omega
     have hbq:Below w.heap.size w wr:=hbW.trans (hS.bel.mono (by omega))
     have rq:wr.heap[w.heap.size+1]?=some (.cells #[Value.int .i64 0,Value.int .i64 0] 61 (0,0)):=(hS.bel.block _ (by omega)).trans rb
     obtain⟨rc,rf⟩:(∀ q,wr.cell? ⟨w.heap.size+1,q,none⟩=(#[Value.int .i64 0,.int .i64 0]:Array Value)[q]?)/\(∀ o,wr.frozen? ⟨w.heap.size+1,o,none⟩=false):=⟨fun q=>by rw[qzB rq],fun o=>by unfold World.frozen?;simp[rq]⟩
     clear hkeq;go_wp2;refine qzK (v:=.tuple #[.slice (some ⟨w.heap.size+1+1,0,none⟩) m.code.length m.code.length,FV (0,0)]) ?_ rfl ⟨?_,Or.inl ⟨by rw[HE.out],_,rfl,?_,by omega⟩⟩
     ·simp[results,Tryz.results38,go_sem,rc,rf]
     ·exact ((hbq.setCell (by simp) _).setCell (by simp) _)
     ·rw[xab (by omega),xab (by omega),HE.out]
      exact hS.row
end Go.Proofs.YtapbeiccodnniaaGreat
