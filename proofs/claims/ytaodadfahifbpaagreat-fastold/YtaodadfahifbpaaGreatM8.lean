/- A part. -/
import Derived.Test.YtaodadfahifbpaaGreatM7
namespace Go.Proofs.YtaodadfahifbpaaGreat
open Go.ChangeShapes Go.WideShapes Go.ChangeAt Go.RowKit
set_option linter.unusedSimpArgs false
set_option linter.unusedVariables false
set_option maxHeartbeats 8000000
set_option maxRecDepth 8000
def xfv (xs:List QC)(c k:Int):Option QM:=(xbo xs c).bind fun x=>if 0<=k then x.mz[k.toNat]? else none
theorem xi3 {P:Nat->Prop}(X:QW)(c k:Int)(cv hv:Value)(w:World)(hC:xaf P w cv X.cz)(hH:xaA P w hv X.heap):Calls Tryz.prog 40 #[WV cv hv X.ez,.int .i64 c,.int .i64 k] w fun e w'=>e=.returned (.bool (xfv X.cz c k).isSome)/\Below w.heap.size w w':=by
 obtain⟨ac,cc,rfl,hl,hcc,-,hrow⟩:=id hC;obtain⟨ah,ch,rfl,-⟩:=id hH;unfold maxLen at hcc;have hb0:=xaj w (.cells #[.slice ac X.cz.length cc,.slice ah X.heap.length ch,.int .i64 X.ez] 25)
 by_cases hc0:0<=c
 ·obtain⟨q,rfl⟩:∃ q:Nat,c=(q:Int):=⟨c.toNat,by omega⟩
  have hd0:decide ((0:Int)<=(q:Int))=true:=by simp
  by_cases hq:q<X.cz.length
  ·have hx:X.cz[q]?=some X.cz[q]:=by simp[hq]
   have HM:Hid (xfv X.cz (q:Int) k=if 0<=k then X.cz[q].mz[k.toNat]? else none):=by show _=_;unfold xfv;rw[xeg,hx];rfl
   obtain⟨b,o,rfl,-,-,-,-,-,mv,y3,hms⟩:=hrow q _ hx;generalize X.cz[q]=xc at *;obtain⟨am,cm,rfl,-⟩:=id hms;have u3:=qzA hb0 y3;have hq1:(q:Int)<(X.cz.length:Int):=by omega
   have hq0:(0:Int)<=(q:Int):=by omega
   clear hrow y3 hms
   by_cases hk:0<=k
   ·have HM2:Hid ((xfv X.cz (q:Int) k).isSome=decide (k<(xc.mz.length:Int))):=by
     show _=_
     rw[HM.out,if_pos hk]
     by_cases h:k<(xc.mz.length:Int)
     ·rw[List.getElem?_eq_getElem (by omega)];simp[h]
     ·rw[List.getElem?_eq_none (by omega)];simp[h]
    go_enter Tryz.func40,Tryz.ntmps40;go_wp2
    go_ret
    exact⟨xbv HM2.out.symm,hb0⟩
   ·have HM2:Hid ((xfv X.cz (q:Int) k).isSome=false):=by show _=_;rw[HM.out,if_neg hk];rfl
    have hkn:¬ (0<=k):=hk;go_enter Tryz.func40,Tryz.ntmps40;go_wp2
    go_ret
    exact⟨xbv HM2.out.symm,hb0⟩
  ·have HM2:Hid ((xfv X.cz (q:Int) k).isSome=false):=by show _=_;unfold xfv;rw[xeg,List.getElem?_eq_none (by omega)];rfl
   have hqn:¬ ((q:Int)<(X.cz.length:Int)):=by omega
   clear hrow;go_enter Tryz.func40,Tryz.ntmps40;go_wp2
   go_ret
   exact⟨xbv HM2.out.symm,hb0⟩
 ·have HM2:Hid ((xfv X.cz c k).isSome=false):=by show _=_;unfold xfv xbo;rw[if_neg hc0];rfl
  clear hrow;go_enter Tryz.func40,Tryz.ntmps40;go_wp2
  go_ret
  exact⟨xbv HM2.out.symm,hb0⟩
theorem xfI:∀ (q:List QI) (i:Nat) (t:Int),(xa9 q).set (i*5+1) (.int .i64 t)=xa9 (q.modify i fun y=>{ y with a:=t })
 | [],i,t=>by simp[xa9]
 | p :: q,0,t=>by simp[xa9]
 | p :: q,i+1,t=>by
  rw[show (i+1)*5+1=i*5+1+1+1+1+1+1 by omega]
  simp only[xa9,List.set_cons_succ,List.modify_succ_cons];rw[xfI q i t]
theorem OwnI.setA {w:World}{B g o cap:Nat}{code:List QI}(h:OwnI w B (some ⟨g,o,none⟩) cap code){p:Nat}(hp:p<code.length)(t:Int):OwnI (w.setCell ⟨g,o+p*5+1,none⟩ (.int .i64 t)) B (some ⟨g,o,none⟩) cap (code.modify p fun y=>{ y with a:=t }):=by
 obtain⟨h1,h2 | ⟨g',o',c',cur,e,h3,h4,h5,h6,h7,h8⟩⟩:=h
 ·have:=h2.2;omega
 ·cases e
  unfold OwnI;rw[List.length_modify];refine⟨by rw[xdp,List.length_modify],Or.inr ⟨g,o,cap,_,rfl,h3,xah h4 _,h5,h6,by simpa using h7,?_⟩⟩
  rw[← xfI,← h8];simp only[Array.toList_setIfInBounds,List.drop_set,List.take_set];rw[if_neg (by omega),show o+p*5+1-o=p*5+1 by omega,List.take_set]
theorem xma {P Q:Nat->Prop}(code plain:List QI)(begins:List Int)(g o cap B:Nat)(kv bv:Value)(w:World)(hO:OwnI w B (some ⟨g,o,none⟩) cap code)(hP:xaK P w kv plain)(hQ:xcL Q w bv begins)(hPg:∀ b,P b->b≠g)(hQg:∀ b,Q b->b≠g)(hlen:begins.length=plain.length)(hl60:plain.length<=60)(hin:∀ b∈begins,0<=b/\b<(code.length:Int)) :
  Calls Tryz.prog 46 #[.slice (some ⟨g,o,none⟩) code.length cap,kv,bv] w fun e w'=>e=.returned (.tuple #[])/\OwnI w' B (some ⟨g,o,none⟩) cap (xeO begins plain code plain.length)/\Below B w w'/\∀ b,b<w.heap.size->b≠g->w'.heap[b]?=w.heap[b]?:=by
 obtain⟨ak,ck,rfl,-,hck,-,hrowP⟩:=id hP;obtain⟨ab,cb,rfl,-,hcb,-,hrowQ⟩:=id hQ
 have hcap:code.length<=cap/\cap<=9223372036854775807:=by
  obtain⟨a',c',e,h1,h2⟩:=hO.form
  cases e;unfold maxLen at h2;omega
 unfold maxLen at hck hcb;have hBg:B<=g:=(hO.lt g rfl).1;have hgw:g<w.heap.size:=(hO.lt g rfl).2;generalize hn:code.length=n at *;have HIN:=xb7 hin;have HLEN:=xb7 hlen;clear hin hlen;go_enter Tryz.func46,Tryz.ntmps46;go_wp2
 go_loopg [10] plain.length (fun gk iv wr=>∃ j:Nat,j+gk=plain.length/\iv=.int .i64 (j:Int)/\OwnI wr B (some ⟨g,o,none⟩) cap (xeO begins plain code j)/\Below B w wr/\(∀ b,b<w.heap.size->b≠g->wr.heap[b]?=w.heap[b]?)/\w.heap.size<=wr.heap.size)
 case atStart=>exact⟨0,by omega,rfl,hO,Below.refl _ _,fun _ _ _=>rfl,qzC _⟩
 case round=>
  clear hO;obtain⟨j,hj,rfl,hO,hb,hblk,hsz⟩:=hrel;have hlj:(xeO begins plain code j).length=n:=by rw[xee,hn]
  by_cases hlt:j<plain.length
  ·have hxj:plain[j]?=some plain[j]:=by simp[hlt]
   obtain⟨pz,hbj⟩:∃ pz,begins[j]?=some pz:=⟨begins[j]'(by have:=HLEN.out;omega),by simp⟩
   have hpz:=HIN.out pz (List.mem_of_getElem? hbj);obtain⟨p,rfl⟩:∃ p:Nat,pz=(p:Int):=⟨pz.toNat,by omega⟩
   obtain⟨b1,o1,rfl,hPb,u0,u1,u2,u3,u4,-⟩:=hrowP j _ hxj;obtain⟨bb,ob,rfl,hQb,y0⟩:=hrowQ j _ hbj;generalize plain[j]=x at *;have hb1l:b1<w.heap.size:=World.block_lt_of_cell? w _ u0;have hbbl:bb<w.heap.size:=World.block_lt_of_cell? w _ y0;have hcell:∀ (b o:Nat) v,b<w.heap.size->b≠g->w.cell? ⟨b,o,none⟩=some v->wr.cell? ⟨b,o,none⟩=some v:=fun b o v h1 h2 h=>by unfold World.cell? at h ⊢;rw[hblk b h1 h2];exact h
   simp only[Nat.add_zero] at u0;replace u0:=hcell _ _ _ hb1l (hPg _ hPb) u0;replace u1:=hcell _ _ _ hb1l (hPg _ hPb) u1;replace u2:=hcell _ _ _ hb1l (hPg _ hPb) u2;replace u3:=hcell _ _ _ hb1l (hPg _ hPb) u3;replace u4:=hcell _ _ _ hb1l (hPg _ hPb) u4;replace y0:wr.cell? ⟨bb,ob+j,none⟩=some (.int .i64 (p:Int)):=hcell _ _ _ hbbl (hQg _ hQb) (by simpa [xnl] using y0)
   have hj1:(j:Int)<(plain.length:Int):=by omega
   have hj0:(0:Int)<=(j:Int):=by omega
   have hjb:(j:Int)<(begins.length:Int):=by have:=HLEN.out;omega
   have hbx:=xaj wr (.cells #[.int .i64 x.op,.int .i64 x.a,.int .i64 x.b,.int .i64 x.c,.string x.name] 57)
   have HLS:Hid (xeO begins plain code (j+1)=match xhI begins x with | some t=>(xeO begins plain code j).modify p (fun y=>{ y with a:=t }) | none=>xeO begins plain code j):=by
    show _=_
    conv=>lhs;unfold xeO
    rw[hxj,hbj]
    cases h:xhI begins x with
    | none=>simp only[h]
    | some t=>simp only[h,Int.toNat_natCast]
   have HNX:Hid (xhI begins x=none->∃ j':Nat,j'+(plain.length-(j+1))=plain.length/\Value.int .i64 ((j:Int)+1)=.int .i64 (j':Int)/\OwnI (wr.alloc (.cells #[.int .i64 x.op,.int .i64 x.a,.int .i64 x.b,.int .i64 x.c,.string x.name] 57)) B (some ⟨g,o,none⟩) cap (xeO begins plain code j')/\Below B w (wr.alloc (.cells #[.int .i64 x.op,.int .i64 x.a,.int .i64 x.b,.int .i64 x.c,.string x.name] 57))/\(∀ b,b<w.heap.size->b≠g->(wr.alloc (.cells #[.int .i64 x.op,.int .i64 x.a,.int .i64 x.b,.int .i64 x.c,.string x.name] 57)).heap[b]?=w.heap[b]?)/\w.heap.size<=(wr.alloc (.cells #[.int .i64 x.op,.int .i64 x.a,.int .i64 x.b,.int .i64 x.c,.string x.name] 57)).heap.size):=fun h=>by
    refine⟨j+1,by omega,by go_num,?_,xeG hb _ (by omega),fun b h1 h2=>by rw[hbx.block b (by omega)];exact hblk b h1 h2,by simp;omega⟩
    rw[HLS.out,h]
    exact hO.alloc _
   have hwj:IntKind.i64.wrap ((j:Int)+1)=(j:Int)+1:=xaq (by omega) (by omega)
   clear hxj hbj hcell
   by_cases hjp:(x.op=15\/x.op=16)/\0<=x.a/\x.a<(begins.length:Int)
   ·obtain⟨hop,ha0,ha1⟩:=hjp;obtain⟨xa,hxa⟩:∃ xa:Nat,x.a=(xa:Int):=⟨x.a.toNat,by omega⟩
    obtain⟨tt,htt⟩:∃ tt,begins[xa]?=some tt:=⟨begins[xa]'(by omega),by simp⟩
    have HLD:Hid (xhI begins x=some tt):=by show _=_;unfold xhI;rw[if_pos ⟨hop,ha0⟩,hxa];simpa using htt
    obtain⟨bb',ob',eb,-,t0⟩:=hrowQ xa tt htt
    cases eb
    replace t0:wr.cell? ⟨bb,ob+xa,none⟩=some (.int .i64 tt):=by
     have h:w.cell? ⟨bb,ob+xa,none⟩=some (.int .i64 tt):=by simpa [xnl] using t0
     unfold World.cell? at h ⊢;rw[hblk bb hbbl (hQg _ hQb)];exact h
    have hxa1:(xa:Int)<(begins.length:Int):=by omega
    have hxa0:(0:Int)<=(xa:Int):=by omega
    have hda:decide ((0:Int)<=(xa:Int))=true:=by simp
    have hdb:decide ((xa:Int)<(begins.length:Int))=true:=by simp;omega
    have hp1:(p:Int)<(n:Int):=by omega
    have hp0:(0:Int)<=(p:Int):=by omega
    rw[hxa] at u1;have hO1:OwnI (wr.alloc (.cells #[.int .i64 x.op,.int .i64 (xa:Int),.int .i64 x.b,.int .i64 x.c,.string x.name] 57)) B (some ⟨g,o,none⟩) cap (xeO begins plain code j):=hO.alloc _;have hset:=xb7 (OwnI.setA hO1 (p:=p) (by omega) tt)
    have hgr:g<wr.heap.size:=(hO.lt g rfl).2
    have hcg:∃ u,(wr.alloc (.cells #[.int .i64 x.op,.int .i64 (xa:Int),.int .i64 x.b,.int .i64 x.c,.string x.name] 57)).cell? ⟨g,o+p*5+1,none⟩=some u/\∀ k,(wr.alloc (.cells #[.int .i64 x.op,.int .i64 (xa:Int),.int .i64 x.b,.int .i64 x.c,.string x.name] 57)).frozen? ⟨g,k,none⟩=false:=by
     obtain⟨h1,h2 | ⟨g',o',c',cur,e,h3,h4,h5,h6,h7,h8⟩⟩:=hO1
     ·have:=h2.2;omega
     ·cases e
      refine⟨_,by rw[qzB h4];exact Array.getElem?_eq_getElem (by omega),xbB h4⟩
    obtain⟨ug,hug,hgf⟩:=hcg;have hbx':=xaj wr (.cells #[.int .i64 x.op,.int .i64 (xa:Int),.int .i64 x.b,.int .i64 x.c,.string x.name] 57);have y0':=qzA hbx' y0;have t0':=qzA hbx' t0;have x1':(wr.alloc (.cells #[.int .i64 x.op,.int .i64 (xa:Int),.int .i64 x.b,.int .i64 x.c,.string x.name] 57)).cell? ⟨wr.heap.size,1,none⟩=some (.int .i64 (xa:Int)):=xaa _ _ _ _ rfl 1;have HXA:=xb7 hxa;have HBB:=xb7 (And.intro hblk (And.intro hb hsz));clear hxa ha0 ha1 htt hO hO1 HNX hrowQ hrowP
    have hfin:Hid (∃ j':Nat,j'+(plain.length-(j+1))=plain.length/\Value.int .i64 ((j:Int)+1)=.int .i64 (j':Int)/\OwnI (((wr.alloc (.cells #[.int .i64 x.op,.int .i64 (xa:Int),.int .i64 x.b,.int .i64 x.c,.string x.name] 57))).setCell ⟨g,o+p*5+1,none⟩ (.int .i64 tt)).drew B (some ⟨g,o,none⟩) cap (xeO begins plain code j')/\Below B w (((wr.alloc (.cells #[.int .i64 x.op,.int .i64 (xa:Int),.int .i64 x.b,.int .i64 x.c,.string x.name] 57))).setCell ⟨g,o+p*5+1,none⟩ (.int .i64 tt)).drew/\(∀ b,b<w.heap.size->b≠g->(((wr.alloc (.cells #[.int .i64 x.op,.int .i64 (xa:Int),.int .i64 x.b,.int .i64 x.c,.string x.name] 57))).setCell ⟨g,o+p*5+1,none⟩ (.int .i64 tt)).drew.heap[b]?=w.heap[b]?)/\w.heap.size<=(((wr.alloc (.cells #[.int .i64 x.op,.int .i64 (xa:Int),.int .i64 x.b,.int .i64 x.c,.string x.name] 57))).setCell ⟨g,o+p*5+1,none⟩ (.int .i64 tt)).drew.heap.size):=by
     obtain⟨h1,h2,h3⟩:=HBB.out;refine⟨j+1,by omega,by go_num,?_,((xeG h2 _ (by omega)).setCell hBg _).drew,fun b hb1 hb2=>?_,by simp;omega⟩
     ·rw[HLS.out,HLD.out]
      exact hset.out.keep fun g hg=>rfl
     ·show (World.setCell _ _ _).heap[b]?=_
      rw[xac hb2,hbx'.block b (by omega)]
      exact h1 b hb1 hb2
    rcases hop with hop | hop
    ·have hd15:(x.op == 15)=true:=by simpa using hop
     clear hop
     go_upto_region 4 with (fail)
     generalize (wr.alloc (.cells #[.int .i64 x.op,.int .i64 (xa:Int),.int .i64 x.b,.int .i64 x.c,.string x.name] 57))=V at *;have hS0:V.drew.cell? ⟨bb,ob+j,none⟩=some (.int .i64 (p:Int))/\V.drew.cell? ⟨wr.heap.size,1,none⟩=some (.int .i64 (xa:Int))/\V.drew.cell? ⟨bb,ob+xa,none⟩=some (.int .i64 tt):=⟨y0',x1',t0'⟩;refine xat (S:=fun w'=>w'.cell? ⟨bb,ob+j,none⟩=some (.int .i64 (p:Int))/\w'.cell? ⟨wr.heap.size,1,none⟩=some (.int .i64 (xa:Int))/\w'.cell? ⟨bb,ob+xa,none⟩=some (.int .i64 tt)) [12] (by kernel_rfl) ?_
     refine tk 0 (⟨some 35,.move (.tmp 0),47,_,_,none⟩) (.slice (some ⟨g,o,none⟩) n cap) rfl (hS0) (fun _ _ _ h=>h) rfl (by kernel_rfl) ?_ ?_
     ·rintro w⟨q0,q1,q2⟩;go_simp
     try simp only[Act.put,qzF,qzG,qzH]
     refine tk 1 (⟨some 36,.move (.tmp 2),87,_,_,none⟩) (.slice (some ⟨bb,ob,none⟩) begins.length cb) rfl (hS0) (fun _ _ _ h=>h) rfl (by kernel_rfl) ?_ ?_
     ·rintro w⟨q0,q1,q2⟩;go_simp
     try simp only[Act.put,qzF,qzG,qzH]
     refine tk 2 (⟨some 37,.move (.tmp 6),3,_,_,none⟩) (.int .i64 (j:Int)) rfl (hS0) (fun _ _ _ h=>h) rfl (by kernel_rfl) ?_ ?_
     ·rintro w⟨q0,q1,q2⟩;go_simp
     try simp only[Act.put,qzF,qzG,qzH]
     refine tk 3 (⟨some 38,.indexAddr 87 (.tmp 36) (.tmp 37),0,_,_,none⟩) (.pointer (some ⟨bb,ob+j,none⟩)) rfl (hS0) (fun _ _ _ h=>h) rfl (by kernel_rfl) ?_ ?_
     ·rintro w⟨q0,q1,q2⟩;go_simp
     try simp only[Act.put,qzF,qzG,qzH]
     refine tk 4 (⟨some 39,.load 3 (.tmp 38),3,_,_,none⟩) (.int .i64 (p:Int)) rfl (hS0) (fun _ _ _ h=>h) rfl (by kernel_rfl) ?_ ?_
     ·rintro w⟨q0,q1,q2⟩;go_simp
     try simp only[Act.put,qzF,qzG,qzH]
     refine tk 5 (⟨some 40,.move (.tmp 2),87,_,_,none⟩) (.slice (some ⟨bb,ob,none⟩) begins.length cb) rfl (hS0) (fun _ _ _ h=>h) rfl (by kernel_rfl) ?_ ?_
     ·rintro w⟨q0,q1,q2⟩;go_simp
     try simp only[Act.put,qzF,qzG,qzH]
     refine tk 6 (⟨some 41,.fieldAddr 57 (.tmp 7) 1,0,_,_,none⟩) (.pointer (some ⟨wr.heap.size,1,none⟩)) rfl (hS0) (fun _ _ _ h=>h) rfl (by kernel_rfl) ?_ ?_
     ·rintro w⟨q0,q1,q2⟩;go_simp
     try simp only[Act.put,qzF,qzG,qzH]
     refine tk 7 (⟨some 42,.load 3 (.tmp 41),3,_,_,none⟩) (.int .i64 (xa:Int)) rfl (hS0) (fun _ _ _ h=>h) rfl (by kernel_rfl) ?_ ?_
     ·rintro w⟨q0,q1,q2⟩;go_simp
     try simp only[Act.put,qzF,qzG,qzH]
     refine tk 8 (⟨some 43,.indexAddr 87 (.tmp 40) (.tmp 42),0,_,_,none⟩) (.pointer (some ⟨bb,ob+xa,none⟩)) rfl (hS0) (fun _ _ _ h=>h) rfl (by kernel_rfl) ?_ ?_
     ·rintro w⟨q0,q1,q2⟩;go_simp
     try simp only[Act.put,qzF,qzG,qzH]
     refine tk 9 (⟨some 44,.load 3 (.tmp 43),3,_,_,none⟩) (.int .i64 tt) rfl (hS0) (fun _ _ _ h=>h) rfl (by kernel_rfl) ?_ ?_
     ·rintro w⟨q0,q1,q2⟩;go_simp
     try simp only[Act.put,qzF,qzG,qzH]
     refine tk 10 (⟨some 45,.indexAddr 47 (.tmp 35) (.tmp 39),0,_,_,none⟩) (.pointer (some ⟨g,o+p*5,none⟩)) rfl (hS0) (fun _ _ _ h=>h) rfl (by kernel_rfl) ?_ ?_
     ·rintro w⟨q0,q1,q2⟩;go_simp
     try simp only[Act.put,qzF,qzG,qzH]
     refine tk 11 (⟨some 46,.fieldAddr 57 (.tmp 45) 1,0,_,_,none⟩) (.pointer (some ⟨g,o+p*5+1,none⟩)) rfl (hS0) (fun _ _ _ h=>h) rfl (by kernel_rfl) ?_ ?_
     ·rintro w⟨q0,q1,q2⟩;go_simp
     try simp only[Act.put,qzF,qzG,qzH]
     refine xab (rs:=[12]) (by kernel_rfl) (by simp) ?_
     intro i hi;simp only[List.mem_cons,List.not_mem_nil,or_false] at hi;subst hi;refine xaL (o:=⟨none,.store 3 (.tmp 46) (.tmp 44),0,_,_,none⟩) rfl (fun K' hK=>?_)
     go_simp;refine hK _ _ (fun h=>absurd h (by decide)) ?_
     clear hK K'
     try simp only[Act.put,qzF,qzG,qzH]
     refine xaw (by kernel_rfl) ?_ _
     try simp only[Act.put,qzF,qzG,qzH]
     go_wp2
     go_roundg (plain.length-(j+1))
     case measure=>omega
     case rel=>exact hfin.out
    ·have hd15:(x.op == 15)=false:=by simp[hop]
     have hd16:(x.op == 16)=true:=by simpa using hop
     clear hop
     go_upto_region 4 with (fail)
     generalize (wr.alloc (.cells #[.int .i64 x.op,.int .i64 (xa:Int),.int .i64 x.b,.int .i64 x.c,.string x.name] 57))=V at *;have hS0:V.drew.cell? ⟨bb,ob+j,none⟩=some (.int .i64 (p:Int))/\V.drew.cell? ⟨wr.heap.size,1,none⟩=some (.int .i64 (xa:Int))/\V.drew.cell? ⟨bb,ob+xa,none⟩=some (.int .i64 tt):=⟨y0',x1',t0'⟩;refine xat (S:=fun w'=>w'.cell? ⟨bb,ob+j,none⟩=some (.int .i64 (p:Int))/\w'.cell? ⟨wr.heap.size,1,none⟩=some (.int .i64 (xa:Int))/\w'.cell? ⟨bb,ob+xa,none⟩=some (.int .i64 tt)) [12] (by kernel_rfl) ?_
     refine tk 0 (⟨some 35,.move (.tmp 0),47,_,_,none⟩) (.slice (some ⟨g,o,none⟩) n cap) rfl (hS0) (fun _ _ _ h=>h) rfl (by kernel_rfl) ?_ ?_
     ·rintro w⟨q0,q1,q2⟩;go_simp
     try simp only[Act.put,qzF,qzG,qzH]
     refine tk 1 (⟨some 36,.move (.tmp 2),87,_,_,none⟩) (.slice (some ⟨bb,ob,none⟩) begins.length cb) rfl (hS0) (fun _ _ _ h=>h) rfl (by kernel_rfl) ?_ ?_
     ·rintro w⟨q0,q1,q2⟩;go_simp
     try simp only[Act.put,qzF,qzG,qzH]
     refine tk 2 (⟨some 37,.move (.tmp 6),3,_,_,none⟩) (.int .i64 (j:Int)) rfl (hS0) (fun _ _ _ h=>h) rfl (by kernel_rfl) ?_ ?_
     ·rintro w⟨q0,q1,q2⟩;go_simp
     try simp only[Act.put,qzF,qzG,qzH]
     refine tk 3 (⟨some 38,.indexAddr 87 (.tmp 36) (.tmp 37),0,_,_,none⟩) (.pointer (some ⟨bb,ob+j,none⟩)) rfl (hS0) (fun _ _ _ h=>h) rfl (by kernel_rfl) ?_ ?_
     ·rintro w⟨q0,q1,q2⟩;go_simp
     try simp only[Act.put,qzF,qzG,qzH]
     refine tk 4 (⟨some 39,.load 3 (.tmp 38),3,_,_,none⟩) (.int .i64 (p:Int)) rfl (hS0) (fun _ _ _ h=>h) rfl (by kernel_rfl) ?_ ?_
     ·rintro w⟨q0,q1,q2⟩;go_simp
     try simp only[Act.put,qzF,qzG,qzH]
     refine tk 5 (⟨some 40,.move (.tmp 2),87,_,_,none⟩) (.slice (some ⟨bb,ob,none⟩) begins.length cb) rfl (hS0) (fun _ _ _ h=>h) rfl (by kernel_rfl) ?_ ?_
     ·rintro w⟨q0,q1,q2⟩;go_simp
     try simp only[Act.put,qzF,qzG,qzH]
     refine tk 6 (⟨some 41,.fieldAddr 57 (.tmp 7) 1,0,_,_,none⟩) (.pointer (some ⟨wr.heap.size,1,none⟩)) rfl (hS0) (fun _ _ _ h=>h) rfl (by kernel_rfl) ?_ ?_
     ·rintro w⟨q0,q1,q2⟩;go_simp
     try simp only[Act.put,qzF,qzG,qzH]
     refine tk 7 (⟨some 42,.load 3 (.tmp 41),3,_,_,none⟩) (.int .i64 (xa:Int)) rfl (hS0) (fun _ _ _ h=>h) rfl (by kernel_rfl) ?_ ?_
     ·rintro w⟨q0,q1,q2⟩;go_simp
     try simp only[Act.put,qzF,qzG,qzH]
     refine tk 8 (⟨some 43,.indexAddr 87 (.tmp 40) (.tmp 42),0,_,_,none⟩) (.pointer (some ⟨bb,ob+xa,none⟩)) rfl (hS0) (fun _ _ _ h=>h) rfl (by kernel_rfl) ?_ ?_
     ·rintro w⟨q0,q1,q2⟩;go_simp
     try simp only[Act.put,qzF,qzG,qzH]
     refine tk 9 (⟨some 44,.load 3 (.tmp 43),3,_,_,none⟩) (.int .i64 tt) rfl (hS0) (fun _ _ _ h=>h) rfl (by kernel_rfl) ?_ ?_
     ·rintro w⟨q0,q1,q2⟩;go_simp
     try simp only[Act.put,qzF,qzG,qzH]
     refine tk 10 (⟨some 45,.indexAddr 47 (.tmp 35) (.tmp 39),0,_,_,none⟩) (.pointer (some ⟨g,o+p*5,none⟩)) rfl (hS0) (fun _ _ _ h=>h) rfl (by kernel_rfl) ?_ ?_
     ·rintro w⟨q0,q1,q2⟩;go_simp
     try simp only[Act.put,qzF,qzG,qzH]
     refine tk 11 (⟨some 46,.fieldAddr 57 (.tmp 45) 1,0,_,_,none⟩) (.pointer (some ⟨g,o+p*5+1,none⟩)) rfl (hS0) (fun _ _ _ h=>h) rfl (by kernel_rfl) ?_ ?_
     ·rintro w⟨q0,q1,q2⟩;go_simp
     try simp only[Act.put,qzF,qzG,qzH]
     refine xab (rs:=[12]) (by kernel_rfl) (by simp) ?_
     intro i hi;simp only[List.mem_cons,List.not_mem_nil,or_false] at hi;subst hi;refine xaL (o:=⟨none,.store 3 (.tmp 46) (.tmp 44),0,_,_,none⟩) rfl (fun K' hK=>?_)
     go_simp;refine hK _ _ (fun h=>absurd h (by decide)) ?_
     clear hK K'
     try simp only[Act.put,qzF,qzG,qzH]
     refine xaw (by kernel_rfl) ?_ _
     try simp only[Act.put,qzF,qzG,qzH]
     go_wp2
     go_roundg (plain.length-(j+1))
     case measure=>omega
     case rel=>exact hfin.out
   ·have HLD:Hid (xhI begins x=none):=by
     show _=_
     unfold xhI
     by_cases h1:(x.op=15\/x.op=16)/\0<=x.a
     ·rw[if_pos h1,List.getElem?_eq_none (by omega)]
     ·rw[if_neg h1]
    have hfin:=xb7 (HNX.out HLD.out)
    by_cases h15:x.op=15
    ·have hd15:(x.op == 15)=true:=by simpa using h15
     by_cases ha0:0<=x.a
     ·have hlt2:¬ (x.a<(begins.length:Int)):=fun h=>hjp ⟨Or.inl h15,ha0,h⟩
      clear h15 hjp HNX;go_wp2
      go_roundg (plain.length-(j+1))
      case measure=>omega
      case rel=>exact hfin.out
     ·clear h15 hjp HNX;go_wp2
      go_roundg (plain.length-(j+1))
      case measure=>omega
      case rel=>exact hfin.out
    ·have hd15:(x.op == 15)=false:=by simpa using h15
     by_cases h16:x.op=16
     ·have hd16:(x.op == 16)=true:=by simpa using h16
      by_cases ha0:0<=x.a
      ·have hlt2:¬ (x.a<(begins.length:Int)):=fun h=>hjp ⟨Or.inr h16,ha0,h⟩
       clear h15 h16 hjp HNX;go_wp2
       go_roundg (plain.length-(j+1))
       case measure=>omega
       case rel=>exact hfin.out
      ·clear h15 h16 hjp HNX;go_wp2
       go_roundg (plain.length-(j+1))
       case measure=>omega
       case rel=>exact hfin.out
     ·have hd16:(x.op == 16)=false:=by simpa using h16
      clear h15 h16 hjp HNX;go_wp2
      go_roundg (plain.length-(j+1))
      case measure=>omega
      case rel=>exact hfin.out
  ·obtain rfl:j=plain.length:=by omega
   have HF:=xb7 (And.intro hO (And.intro hb hblk));clear hO hb hblk;go_wp2
   exact bodyPost_end (v:=.tuple #[]) (by simp[results,Tryz.results46,go_sem]) rfl ⟨rfl,HF.out.1,HF.out.2.1,HF.out.2.2⟩
theorem xgK:∀ (ps:List Int) (m:Int),(∀ p∈ps,0<=p)->0<=m->xcT m ps=decide (ps.sum<=m)
 | [],m,_,hm=>by simp[xcT,hm]
 | p :: r,m,h,hm=>by
  have hp:=h p (by simp)
  have hr:∀ q∈r,0<=q:=fun q hq=>h q (by simp[hq])
  have hs:∀ l:List Int,(∀ q∈l,0<=q)->0<=l.sum:=by
   intro l
   induction l with
   | nil=>intro _;simp
   | cons a l ih=>intro hl;have:=ih fun q hq=>hl q (by simp[hq]);have:=hl a (by simp);simp;omega
  have h0:=hs r hr;unfold xcT
  by_cases hc:m<p
  ·rw[if_pos (Or.inr hc)];have:¬ (p :: r).sum<=m:=by simp;omega
   simp only[this,decide_false]
  ·rw[if_neg (by omega),xgK r (m-p) hr (by omega)]
   have:(r.sum<=m-p) ↔ ((p :: r).sum<=m):=by simp;omega
   simp only[this]
theorem xgW (w:World)(ps:List Int)(t:TypeId)(hl:ps.length<=1000):xcL (fun _=>True) (w.alloc (.cells (ps.map (Value.int .i64)).toArray t)) (.slice (some ⟨w.heap.size,0,none⟩) ps.length ps.length) ps:=by
 refine⟨_,_,rfl,qzC _,by unfold maxLen;omega,by omega,fun i x hx=>⟨w.heap.size,0,rfl,trivial,?_⟩⟩
 show World.cell? _ ⟨w.heap.size,0+i*1+0,none⟩=_
 rw[xaa _ _ _ _ rfl]
 simp[hx]
theorem xiw (f:Fst)(a:Option Addr)(n cap:Nat)(leaf:QM)(ka:Option Addr)(kc:Nat)(w:World)(ha:0<=leaf.args/\leaf.args<=4)(ht:0<=leaf.temps/\leaf.temps<=6)(hs:0<=f.temps/\f.temps<=100)(hn:n<=300)(hl60:leaf.code.length<=60) :
  Calls Tryz.prog 45 #[FsV f (.slice a n cap),MV leaf (.slice ka leaf.code.length kc)] w fun e w'=>e=.returned (PlV f.temps (f.temps+1) (f.temps+1+leaf.args) (xbN leaf n) (xbN leaf n+leaf.code.length))/\Below w.heap.size w w':=by
 have h1:IntKind.i64.wrap (f.temps+1)=f.temps+1:=xaq (by omega) (by omega)
 have h2:IntKind.i64.wrap (f.temps+1+leaf.args)=f.temps+1+leaf.args:=xaq (by omega) (by omega)
 have h3:IntKind.i64.wrap ((n:Int)+3)=(n:Int)+3:=xaq (by omega) (by omega)
 have h4:IntKind.i64.wrap ((n:Int)+3+leaf.args)=(n:Int)+3+leaf.args:=xaq (by omega) (by omega)
 have h5:IntKind.i64.wrap (2*leaf.temps)=2*leaf.temps:=xaq (by omega) (by omega)
 have h6:IntKind.i64.wrap ((n:Int)+3+leaf.args+2*leaf.temps)=(n:Int)+3+leaf.args+2*leaf.temps:=xaq (by omega) (by omega)
 have h7:IntKind.i64.wrap ((n:Int)+3+leaf.args+2*leaf.temps+(leaf.code.length:Int))=(n:Int)+3+leaf.args+2*leaf.temps+(leaf.code.length:Int):=xaq (by omega) (by omega)
 go_enter Tryz.func45,Tryz.ntmps45;go_wp2;refine bodyPost_ret (v:=PlV f.temps (f.temps+1) (f.temps+1+leaf.args) (xbN leaf n) (xbN leaf n+leaf.code.length)) ?_ rfl ⟨rfl,?_⟩
 ·simp[results,Tryz.results45,go_sem,xbN]
 ·exact xeQ _ _ _ _
theorem xnB (n:Nat)(temps:Int)(leaf:QM)(left:Int)(ha:0<=leaf.args/\leaf.args<=4)(ht:0<=leaf.temps/\leaf.temps<=6)(hs:0<=temps)(hl:0<=left):xft n temps leaf left=(xcT 240 [(n:Int),3,leaf.args,leaf.temps,leaf.temps,(leaf.code.length:Int),left] && xcT 40 [temps,1,leaf.args,leaf.temps]):=by
 rw[xgK _ _ (by intro p hp;simp at hp;rcases hp with rfl | rfl | rfl | rfl | rfl | rfl<;>omega) (by omega),xgK _ _ (by intro p hp;simp at hp;rcases hp with rfl | rfl | rfl | rfl<;>omega) (by omega)]
 unfold xft;rw[Bool.eq_iff_iff]
 simp
 omega
theorem xiC (f:Fst)(a:Option Addr)(n cap:Nat)(leaf:QM)(ka:Option Addr)(kc:Nat)(left:Int)(w:World)(ha:0<=leaf.args/\leaf.args<=4)(ht:0<=leaf.temps/\leaf.temps<=6)(hs:0<=f.temps)(hl:0<=left) :
  Calls Tryz.prog 42 #[FsV f (.slice a n cap),MV leaf (.slice ka leaf.code.length kc),.int .i64 left] w fun e w'=>e=.returned (.bool (xft n f.temps leaf left))/\Below w.heap.size w w':=by
 have HRM:=xb7 (xnB n f.temps leaf left ha ht hs hl);have hb2:=xbA w (.cells #[.int .i64 f.cls,.string f.name,.int .i64 f.ez,.int .i64 f.temps,.slice a n cap] 49) (.cells #[.string leaf.name,.int .i64 leaf.args,.int .i64 leaf.temps,.int .i64 leaf.prim,.slice ka leaf.code.length kc] 59);have c0:((w.alloc (.cells #[.int .i64 f.cls,.string f.name,.int .i64 f.ez,.int .i64 f.temps,.slice a n cap] 49)).alloc (.cells #[.string leaf.name,.int .i64 leaf.args,.int .i64 leaf.temps,.int .i64 leaf.prim,.slice ka leaf.code.length kc] 59)).cell? ⟨w.heap.size,4,none⟩=some (.slice a n cap):=qzA (xaj _ _) (xaa w #[.int .i64 f.cls,.string f.name,.int .i64 f.ez,.int .i64 f.temps,.slice a n cap] 49 _ rfl 4)
 have c3:((w.alloc (.cells #[.int .i64 f.cls,.string f.name,.int .i64 f.ez,.int .i64 f.temps,.slice a n cap] 49)).alloc (.cells #[.string leaf.name,.int .i64 leaf.args,.int .i64 leaf.temps,.int .i64 leaf.prim,.slice ka leaf.code.length kc] 59)).cell? ⟨w.heap.size,3,none⟩=some (.int .i64 f.temps):=qzA (xaj _ _) (xaa w #[.int .i64 f.cls,.string f.name,.int .i64 f.ez,.int .i64 f.temps,.slice a n cap] 49 _ rfl 3);have l1:((w.alloc (.cells #[.int .i64 f.cls,.string f.name,.int .i64 f.ez,.int .i64 f.temps,.slice a n cap] 49)).alloc (.cells #[.string leaf.name,.int .i64 leaf.args,.int .i64 leaf.temps,.int .i64 leaf.prim,.slice ka leaf.code.length kc] 59)).cell? ⟨w.heap.size+1,1,none⟩=some (.int .i64 leaf.args):=xaa _ _ _ _ (by simp) 1
 have l2:((w.alloc (.cells #[.int .i64 f.cls,.string f.name,.int .i64 f.ez,.int .i64 f.temps,.slice a n cap] 49)).alloc (.cells #[.string leaf.name,.int .i64 leaf.args,.int .i64 leaf.temps,.int .i64 leaf.prim,.slice ka leaf.code.length kc] 59)).cell? ⟨w.heap.size+1,2,none⟩=some (.int .i64 leaf.temps):=xaa _ _ _ _ (by simp) 2
 have l4:((w.alloc (.cells #[.int .i64 f.cls,.string f.name,.int .i64 f.ez,.int .i64 f.temps,.slice a n cap] 49)).alloc (.cells #[.string leaf.name,.int .i64 leaf.args,.int .i64 leaf.temps,.int .i64 leaf.prim,.slice ka leaf.code.length kc] 59)).cell? ⟨w.heap.size+1,4,none⟩=some (.slice ka leaf.code.length kc):=xaa _ _ _ _ (by simp) 4
 go_enter Tryz.func42,Tryz.ntmps42
 go_upto_region 1 with (fail)
 generalize ((w.alloc (.cells #[.int .i64 f.cls,.string f.name,.int .i64 f.ez,.int .i64 f.temps,.slice a n cap] 49)).alloc (.cells #[.string leaf.name,.int .i64 leaf.args,.int .i64 leaf.temps,.int .i64 leaf.prim,.slice ka leaf.code.length kc] 59))=W at *;go_wp2_with fail;refine (xi1 [(n:Int),3,leaf.args,leaf.temps,leaf.temps,(leaf.code.length:Int),left] _ 240 _ (by omega) (xgW W [(n:Int),3,leaf.args,leaf.temps,leaf.temps,(leaf.code.length:Int),left] 3 (by simp))).mono ?_
 rintro e w1 ⟨rfl,rfl⟩;have hb1:=xaj W (.cells #[.int .i64 (n:Int),.int .i64 3,.int .i64 leaf.args,.int .i64 leaf.temps,.int .i64 leaf.temps,.int .i64 (leaf.code.length:Int),.int .i64 left] 3)
 by_cases h1:xcT 240 [(n:Int),3,leaf.args,leaf.temps,leaf.temps,(leaf.code.length:Int),left]=true
 ·have HV:Hid (xft n f.temps leaf left=xcT 40 [f.temps,1,leaf.args,leaf.temps]):=by show _=_;rw[HRM.out,h1];rfl
  rw[h1];have d3:=qzA hb1 c3;have e1:=qzA hb1 l1;have e2:=qzA hb1 l2;have HB:=xb7 (xae hb2 hb1);clear h1 c0 c3 l1 l2 l4 hb2;generalize hW1:W.alloc _=W1 at *;go_wp2_with fail;refine (xi1 [f.temps,1,leaf.args,leaf.temps] _ 40 _ (by omega) (xgW W1 [f.temps,1,leaf.args,leaf.temps] 3 (by simp))).mono ?_
  rintro e w2 ⟨rfl,rfl⟩;have HB2:=xb7 (xae HB.out (xaj W1 (.cells ([f.temps,1,leaf.args,leaf.temps].map (Value.int .i64)).toArray 3)));go_wp2
  go_ret
  exact⟨xbv HV.out.symm,HB2.out⟩
 ·have h1':xcT 240 [(n:Int),3,leaf.args,leaf.temps,leaf.temps,(leaf.code.length:Int),left]=false:=by simpa using h1
  have HV:Hid (xft n f.temps leaf left=false):=by show _=_;rw[HRM.out,h1'];rfl
  rw[h1'];have HB:=xb7 (xae hb2 hb1);clear h1 h1';go_wp2
  go_ret
  exact⟨xbv HV.out.symm,HB.out⟩
def LfPost (w:World)(st:Option QM)(e:Ending)(w':World):Prop:=
 ∃ m a c,e=.returned (.tuple #[MV m (.slice a m.code.length c),.bool st.isSome])/\(∀ m',st=some m'->m=m')/\xaK (fun b=>b<w.heap.size) w' (.slice a m.code.length c) m.code/\Below w.heap.size w w'
theorem LfPost.drew {w w':World}{st:Option QM}{e:Ending}(h:LfPost w st e w'):LfPost w st e w'.drew:=by
 obtain⟨m,a,c,h1,h2,h3,h4⟩:=h
 exact⟨m,a,c,h1,h2,h3.later xaV (Below.refl _ _).drew,h4.drew⟩
theorem xkj {w U:World}{st:Option QM}{m:QM}{a:Option Addr}{c:Nat}{b:Bool}(hst:st=if b then some m else none)(hb:Below w.heap.size w U)(hco:xaK (fun b=>b<w.heap.size) U (.slice a m.code.length c) m.code):LfPost w st (.returned (.tuple #[MV m (.slice a m.code.length c),.bool b])) (xj9 U (w.heap.size+2) (.string m.name) (.int .i64 m.args) (.int .i64 m.temps) (.int .i64 m.prim) (.slice a m.code.length c)):=by
 refine⟨m,a,c,?_,?_,hco.keep xaV (Keeps.of_block fun b hb _=>xpI (by omega)) fun _ h=>h,xpw hb (by omega)⟩
 ·cases b<;>simp[hst]
 ·intro m' h;rw[hst] at h
  cases b
  ·cases h
  ·cases h;rfl
abbrev zM0:QM:=⟨⟨#[]⟩,0,0,0,[]⟩
theorem xoH {w U:World}(hb:Below w.heap.size w U):LfPost w none (.returned (.tuple #[MV zM0 (.slice none 0 0),.bool false])) (xj9 U (w.heap.size+2) (.string ⟨#[]⟩) (.int .i64 0) (.int .i64 0) (.int .i64 0) (.slice none 0 0)):=
 xkj (m:=zM0) (a:=none) (c:=0) (b:=false) rfl hb xbk
structure LfB (w:World)(cv hv:Value)(ep:Int)(x:QI)(w':World):Prop where
 w0:w'.cell? ⟨w.heap.size,0,none⟩=some cv
 w1:w'.cell? ⟨w.heap.size,1,none⟩=some hv
 w2:w'.cell? ⟨w.heap.size,2,none⟩=some (.int .i64 ep)
 x0:w'.cell? ⟨w.heap.size+1,0,none⟩=some (.int .i64 x.op)
 x1:w'.cell? ⟨w.heap.size+1,1,none⟩=some (.int .i64 x.a)
 x4:w'.cell? ⟨w.heap.size+1,4,none⟩=some (.string x.name)
 z0:w'.cell? ⟨w.heap.size+2,0,none⟩=some (.string ⟨#[]⟩)
 z1:w'.cell? ⟨w.heap.size+2,1,none⟩=some (.int .i64 0)
 z2:w'.cell? ⟨w.heap.size+2,2,none⟩=some (.int .i64 0)
 z3:w'.cell? ⟨w.heap.size+2,3,none⟩=some (.int .i64 0)
 z4:w'.cell? ⟨w.heap.size+2,4,none⟩=some (.slice none 0 0)
 zf:∀ o,w'.frozen? ⟨w.heap.size+2,o,none⟩=false
 sz:w.heap.size+3<=w'.heap.size
theorem LfB.later {w:World}{cv hv:Value}{ep:Int}{x:QI}{w' w'':World}(h:LfB w cv hv ep x w')(hb:Below w'.heap.size w' w''):LfB w cv hv ep x w'':=
 ⟨qzA hb h.w0,qzA hb h.w1,qzA hb h.w2,qzA hb h.x0,qzA hb h.x1,qzA hb h.x4,qzA hb h.z0,qzA hb h.z1,qzA hb h.z2,qzA hb h.z3,qzA hb h.z4,fun o=>(hb.frozen (p:=⟨w.heap.size+2,o,none⟩) (by have:=h.sz;simp only;omega)).trans (h.zf o),qzD h.sz hb.size⟩
theorem xnz (w:World)(cv hv:Value)(ep:Int)(x:QI):LfB w cv hv ep x (((w.alloc (.cells #[cv,hv,.int .i64 ep] 25)).alloc (.cells #[.int .i64 x.op,.int .i64 x.a,.int .i64 x.b,.int .i64 x.c,.string x.name] 57)).alloc (.cells #[.string ⟨#[]⟩,.int .i64 0,.int .i64 0,.int .i64 0,.slice none 0 0] 59)):=by
 have e1:(w.alloc (.cells #[cv,hv,.int .i64 ep] 25)).heap.size=w.heap.size+1:=by simp
 have e2:((w.alloc (.cells #[cv,hv,.int .i64 ep] 25)).alloc (.cells #[.int .i64 x.op,.int .i64 x.a,.int .i64 x.b,.int .i64 x.c,.string x.name] 57)).heap.size=w.heap.size+2:=by simp
 exact⟨qzA (xbA _ _ _) (xaa w #[cv,hv,.int .i64 ep] 25 _ rfl 0),qzA (xbA _ _ _) (xaa w #[cv,hv,.int .i64 ep] 25 _ rfl 1),qzA (xbA _ _ _) (xaa w #[cv,hv,.int .i64 ep] 25 _ rfl 2),qzA (xaj _ _) (xaa _ _ _ _ e1 0),qzA (xaj _ _) (xaa _ _ _ _ e1 1),qzA (xaj _ _) (xaa _ _ _ _ e1 4),xaa _ _ _ _ e2 0,xaa _ _ _ _ e2 1,xaa _ _ _ _ e2 2,xaa _ _ _ _ e2 3,xaa _ _ _ _ e2 4,xbB (cur:=#[.string ⟨#[]⟩,.int .i64 0,.int .i64 0,.int .i64 0,.slice none 0 0]) (t:=59) (by rw[← e2];exact heap_alloc_new _ _),by simp⟩
theorem xj0 {P Q:Nat->Prop}(X:QW)(sites:List Int)(at':Nat)(x:QI)(cv hv sv:Value)(w:World)(hC:xaf P w cv X.cz)(hH:xaA P w hv X.heap)(hS:xcL Q w sv sites) :
  Calls Tryz.prog 41 #[WV cv hv X.ez,sv,.int .i64 (at':Int),IV x] w fun e w'=>LfPost w (xbg X.cz sites at' x) e w':=by
 obtain⟨ac,cc,rfl,-,hcc,-,hrowC⟩:=id (xdy hC);obtain⟨ah,ch,rfl,-⟩:=id hH;obtain⟨asv,cs,rfl,hls,hcs,-,hrow⟩:=id hS;unfold maxLen at hcs hcc;have hB0:=xnz w (.slice ac X.cz.length cc) (.slice ah X.heap.length ch) X.ez x;have hbW:=xeQ w (.cells #[.slice ac X.cz.length cc,.slice ah X.heap.length ch,.int .i64 X.ez] 25) (.cells #[.int .i64 x.op,.int .i64 x.a,.int .i64 x.b,.int .i64 x.c,.string x.name] 57) (.cells #[.string ⟨#[]⟩,.int .i64 0,.int .i64 0,.int .i64 0,.slice none 0 0] 59);go_enter Tryz.func41,Tryz.ntmps41
 go_upto_region 1 with (fail)
 simp only[Nat.add_assoc,Nat.reduceAdd];generalize (((w.alloc (.cells #[.slice ac X.cz.length cc,.slice ah X.heap.length ch,.int .i64 X.ez] 25)).alloc (.cells #[.int .i64 x.op,.int .i64 x.a,.int .i64 x.b,.int .i64 x.c,.string x.name] 57)).alloc (.cells #[.string ⟨#[]⟩,.int .i64 0,.int .i64 0,.int .i64 0,.slice none 0 0] 59))=W at *;have HN:Hid (∀ U,Below w.heap.size w U->xbg X.cz sites at' x=none->LfPost w (xbg X.cz sites at' x) (.returned (.tuple #[MV zM0 (.slice none 0 0),.bool false])) (xj9 U (w.heap.size+2) (.string ⟨#[]⟩) (.int .i64 0) (.int .i64 0) (.int .i64 0) (.slice none 0 0))):=fun U hb h=>by rw[h];exact xoH hb
 obtain⟨k0,k1,k2,x0,x1,x4,z0,z1,z2,z3,z4,zf,sz⟩:=id hB0
 by_cases hop:x.op=14
 ·have hd:(x.op == 14)=true:=by simpa using hop
  have hdn:(x.op != 14)=false:=by simpa using hop
  have HOP:=xb7 hop;rw[hop] at x0;clear hop hd hdn
  by_cases hlt:at'<sites.length
  ·obtain⟨k,hk⟩:∃ k,sites[at']?=some k:=⟨sites[at'],by simp[hlt]⟩
   have HK:Hid (sites.getD at' (-1)=k):=by show _=_;rw[List.getD_eq_getElem?_getD,hk];rfl
   obtain⟨bs,os,rfl,-,y0⟩:=hrow at' k hk;replace y0:w.cell? ⟨bs,os+at',none⟩=some (.int .i64 k):=by simpa [xnl] using y0
   have y1:=qzA hbW y0;have hj1:(at':Int)<(sites.length:Int):=by omega
   have hj0:(0:Int)<=(at':Int):=by omega
   have hge:¬ ((sites.length:Int)<=(at':Int)):=by omega
   clear hrow hk
   by_cases hk0:k<0
   ·have hkd:decide (k<0)=true:=by simpa using hk0
    have HZ:=xb7 (HN.out W hbW (by unfold xbg;rw[if_neg (by rw[HK.out];omega)]))
    clear hk0;go_wp2;refine bodyPost_ret (v:=.tuple #[MV zM0 (.slice none 0 0),.bool false]) ?_ rfl HZ.out
    simp[results,Tryz.results41,go_sem,z0,z1,z2,z3,z4]
   ·have hkd:decide (k<0)=false:=by simpa using hk0
    have HK0:=xb7 hk0
    have hSl:∀ w',Below W.heap.size W w'->w'.cell? ⟨w.heap.size,0,none⟩=some (.slice ac X.cz.length cc)/\w'.cell? ⟨w.heap.size,1,none⟩=some (.slice ah X.heap.length ch)/\w'.cell? ⟨w.heap.size,2,none⟩=some (.int .i64 X.ez)/\w'.cell? ⟨bs,os+at',none⟩=some (.int .i64 k)/\w'.cell? ⟨w.heap.size+1,4,none⟩=some (.string x.name):=fun w' hb=>by
     have h:=hB0.later hb
     exact⟨h.w0,h.w1,h.w2,qzA hb y1,h.x4⟩
    have hS0:=hSl _ (Below.refl _ W).drew;clear hk0
    go_upto_region 3 with (fail)
    refine xat (S:=fun w'=>w'.cell? ⟨w.heap.size,0,none⟩=some (.slice ac X.cz.length cc)/\w'.cell? ⟨w.heap.size,1,none⟩=some (.slice ah X.heap.length ch)/\w'.cell? ⟨w.heap.size,2,none⟩=some (.int .i64 X.ez)/\w'.cell? ⟨bs,os+at',none⟩=some (.int .i64 k)/\w'.cell? ⟨w.heap.size+1,4,none⟩=some (.string x.name)) [] (by kernel_rfl) ?_
    refine tk 0 (⟨some 31,.load 25 (.tmp 4),25,_,_,none⟩) (WV (.slice ac X.cz.length cc) (.slice ah X.heap.length ch) X.ez) rfl (hS0) (fun _ _ _ h=>h) rfl (by kernel_rfl) ?_ ?_
    ·rintro w⟨q0,q1,q2,q3,q4⟩;go_simp
    try simp only[Act.put,qzF,qzG,qzH]
    refine tk 1 (⟨some 32,.move (.tmp 1),87,_,_,none⟩) (.slice (some ⟨bs,os,none⟩) sites.length cs) rfl (hS0) (fun _ _ _ h=>h) rfl (by kernel_rfl) ?_ ?_
    ·rintro w⟨q0,q1,q2,q3,q4⟩;go_simp
    try simp only[Act.put,qzF,qzG,qzH]
    refine tk 2 (⟨some 33,.move (.tmp 2),3,_,_,none⟩) (.int .i64 (at':Int)) rfl (hS0) (fun _ _ _ h=>h) rfl (by kernel_rfl) ?_ ?_
    ·rintro w⟨q0,q1,q2,q3,q4⟩;go_simp
    try simp only[Act.put,qzF,qzG,qzH]
    refine tk 3 (⟨some 34,.indexAddr 87 (.tmp 32) (.tmp 33),0,_,_,none⟩) (.pointer (some ⟨bs,os+at',none⟩)) rfl (hS0) (fun _ _ _ h=>h) rfl (by kernel_rfl) ?_ ?_
    ·rintro w⟨q0,q1,q2,q3,q4⟩;go_simp
    try simp only[Act.put,qzF,qzG,qzH]
    refine tk 4 (⟨some 35,.load 3 (.tmp 34),3,_,_,none⟩) (.int .i64 k) rfl (hS0) (fun _ _ _ h=>h) rfl (by kernel_rfl) ?_ ?_
    ·rintro w⟨q0,q1,q2,q3,q4⟩;go_simp
    try simp only[Act.put,qzF,qzG,qzH]
    refine tk 5 (⟨some 36,.fieldAddr 57 (.tmp 7) 4,0,_,_,none⟩) (.pointer (some ⟨w.heap.size+1,4,none⟩)) rfl (hS0) (fun _ _ _ h=>h) rfl (by kernel_rfl) ?_ ?_
    ·rintro w⟨q0,q1,q2,q3,q4⟩;go_simp
    try simp only[Act.put,qzF,qzG,qzH]
    refine tk 6 (⟨some 37,.load 9 (.tmp 36),9,_,_,none⟩) (.string x.name) rfl (hS0) (fun _ _ _ h=>h) rfl (by kernel_rfl) ?_ ?_
    ·rintro w⟨q0,q1,q2,q3,q4⟩;go_simp
    try simp only[Act.put,qzF,qzG,qzH]
    refine xab (rs:=[7]) (by kernel_rfl) (by simp) ?_
    intro i hi;simp only[List.mem_cons,List.not_mem_nil,or_false] at hi;subst hi;refine xaL (o:=⟨some 38,.call ⟨.value (.func 38),#[.tmp 31,.tmp 35,.tmp 37],#[25,3,9]⟩,93,_,_,none⟩) rfl (fun K' hK=>?_)
    refine xa0 rfl 38 (.func 38) #[.tmp 31,.tmp 35,.tmp 37] _ rfl #[] rfl #[WV (.slice ac X.cz.length cc) (.slice ah X.heap.length ch) X.ez,.int .i64 k,.string x.name] (by simp[Act.eval,Act.put]) (cf45 _ _) ?_
    refine (show Calls Tryz.prog 38 #[WV (.slice ac X.cz.length cc) (.slice ah X.heap.length ch) X.ez,.int .i64 k,.string x.name] W.drew _ from (xeZ X k x.name _ _ W.drew (hC.later xau hbW.drew) (hH.later xaz hbW.drew)).mono ?_)
    rintro e w1 ⟨rfl,hb1⟩;refine⟨_,rfl,?_⟩;have hbW1:Below W.heap.size W w1:=xae (Below.refl _ W).drew hb1;refine hK _ _ (fun _=>?_) ?_
    ·exact hSl _ hbW1
    clear hK K'
    try simp only[Act.put,qzF,qzG,qzH]
    obtain⟨fc,fj,hf⟩:∃ fc fj,xaF X.cz k x.name=(fc,fj):=⟨_,_,rfl⟩;simp only[hf];refine tk 8 (⟨some 30,.move (.tmp 38),93,_,_,none⟩) (.tuple #[.int .i64 fc,.int .i64 fj]) rfl (hSl _ hbW1) (fun _ _ _ h=>h) rfl (by kernel_rfl) ?_ ?_
    ·rintro w⟨q0,q1,q2,q3,q4⟩;go_simp
    try simp only[Act.put,qzF,qzG,qzH]
    refine tk 9 (⟨some 39,.extract (.tmp 30) 0,3,_,_,none⟩) (.int .i64 fc) rfl (hSl _ hbW1) (fun _ _ _ h=>h) rfl (by kernel_rfl) ?_ ?_
    ·rintro w⟨q0,q1,q2,q3,q4⟩;go_simp
    try simp only[Act.put,qzF,qzG,qzH]
    refine tk 10 (⟨some 40,.extract (.tmp 30) 1,3,_,_,none⟩) (.int .i64 fj) rfl (hSl _ hbW1) (fun _ _ _ h=>h) rfl (by kernel_rfl) ?_ ?_
    ·rintro w⟨q0,q1,q2,q3,q4⟩;go_simp
    try simp only[Act.put,qzF,qzG,qzH]
    refine tk 11 (⟨some 10,.assign (.tmp 39),3,_,_,none⟩) (.int .i64 fc) rfl (hSl _ hbW1) (fun _ _ _ h=>h) rfl (by kernel_rfl) ?_ ?_
    ·rintro w⟨q0,q1,q2,q3,q4⟩;go_simp
    try simp only[Act.put,qzF,qzG,qzH]
    refine tk 12 (⟨some 11,.assign (.tmp 40),3,_,_,none⟩) (.int .i64 fj) rfl (hSl _ hbW1) (fun _ _ _ h=>h) rfl (by kernel_rfl) ?_ ?_
    ·rintro w⟨q0,q1,q2,q3,q4⟩;go_simp
    try simp only[Act.put,qzF,qzG,qzH]
    refine xaw (by kernel_rfl) ?_ _
    try simp only[Act.put,qzF,qzG,qzH]
    have hb1w:Below w.heap.size w w1:=xae hbW hbW1;replace hB0:=hB0.later hbW1;clear k0 k1 k2 x0 x1 x4 z0 z1 z2 z3 z4 zf sz hSl hS0 hb1 y0 y1;obtain⟨k0,k1,k2,x0,x1,x4,z0,z1,z2,z3,z4,zf,sz⟩:=id hB0;have HSI:Hid (xbg X.cz sites at' x=match xeH X.cz k x.name with | none=>none | some m=>if m.args=x.a/\xdl m=true then some m else none):=by show _=_;unfold xbg;rw[HK.out,if_pos ⟨HOP.out,by have:=HK0.out;omega⟩];cases xeH X.cz k x.name<;>rfl
    rcases xem X.cz k x.name with ⟨h1,h2⟩ | ⟨qc,xc,tc,m,he,hxc,hm⟩
    ·rw[hf] at h1 h2;simp only at h1 h2;have hfd:decide (fc<0)=true:=by simpa using h1
     have HZ:=xb7 (HN.out w1 hb1w (by rw[HSI.out];unfold xeH;rw[hf,if_pos h2]))
     clear h1 h2;go_wp2;refine bodyPost_ret (v:=.tuple #[MV zM0 (.slice none 0 0),.bool false]) ?_ rfl HZ.out
     simp[results,Tryz.results41,go_sem,z0,z1,z2,z3,z4]
    ·have HSM:Hid (xbg X.cz sites at' x=if m.args=x.a/\xdl m=true then some m else none):=by
      show _=_
      rw[HSI.out];have:xeH X.cz k x.name=some m:=by unfold xeH;rw[he];simp[hxc,hm]
      rw[this]
     rw[hf] at he;obtain⟨rfl,rfl⟩:fc=(qc:Int)/\fj=(tc:Int):=by cases he;exact⟨rfl,rfl⟩
     obtain⟨b1,o1,rfl,-,-,-,-,-,mv,u3,hms⟩:=hrowC qc xc hxc;obtain⟨am,cm,rfl,hlm,hcm,-,hrm⟩:=hms;obtain⟨b2,o2,rfl,-,v0,v1,v2,v3,-,kv,v4,hco0⟩:=hrm tc m hm;obtain⟨ak,ck,rfl,-⟩:=id hco0;simp only[Nat.add_zero] at v0;unfold maxLen at hcm;have hq:=xag hxc;have ht:=xag hm;have hq1:(qc:Int)<(X.cz.length:Int):=by omega
     have hq0:(0:Int)<=(qc:Int):=by omega
     have ht1:(tc:Int)<(xc.mz.length:Int):=by omega
     have ht0:(0:Int)<=(tc:Int):=by omega
     have hqn:decide ((qc:Int)<0)=false:=by simp
     replace u3:=qzA hb1w u3;replace v0:=qzA hb1w v0;replace v1:=qzA hb1w v1;replace v2:=qzA hb1w v2;replace v3:=qzA hb1w v3;replace v4:=qzA hb1w v4;have hbV1:=xaj w1 (.cells #[.string m.name,.int .i64 m.args,.int .i64 m.temps,.int .i64 m.prim,.slice ak m.code.length ck] 59);have hco:=(hco0.later xaV hb1w).later xaV hbV1;have hbV:=xae hb1w hbV1;have hBV:=hB0.later hbV1;have hS12:(w1.alloc (.cells #[.string m.name,.int .i64 m.args,.int .i64 m.temps,.int .i64 m.prim,.slice ak m.code.length ck] 59)).heap[w1.heap.size]?=some (.cells #[.string m.name,.int .i64 m.args,.int .i64 m.temps,.int .i64 m.prim,.slice ak m.code.length ck] 59 (0,0)):=heap_alloc_new _ _
     have hszz:=hB0.sz;clear hrowC hrm hxc hm he hf
     go_upto_region 7 with (fail)
     generalize (w1.alloc (.cells #[.string m.name,.int .i64 m.args,.int .i64 m.temps,.int .i64 m.prim,.slice ak m.code.length ck] 59))=V at *;generalize hb12:w1.heap.size=b12 at *
     have hSl:∀ w',Below V.heap.size V w'->w'.cell? ⟨b12,0,none⟩=some (.string m.name)/\w'.cell? ⟨b12,1,none⟩=some (.int .i64 m.args)/\w'.cell? ⟨b12,2,none⟩=some (.int .i64 m.temps)/\w'.cell? ⟨b12,3,none⟩=some (.int .i64 m.prim)/\w'.cell? ⟨b12,4,none⟩=some (.slice ak m.code.length ck)/\w'.cell? ⟨w.heap.size+1,1,none⟩=some (.int .i64 x.a):=fun w' hb=>by
      have h:=xad hS12 hb
      exact⟨by rw[qzB h];rfl,by rw[qzB h];rfl,by rw[qzB h];rfl,by rw[qzB h];rfl,by rw[qzB h];rfl,(hBV.later hb).x1⟩
     have hZ:∀ w',Below V.heap.size V w'->w'.cell? ⟨w.heap.size+2,0,none⟩=some (.string ⟨#[]⟩)/\w'.cell? ⟨w.heap.size+2,1,none⟩=some (.int .i64 0)/\w'.cell? ⟨w.heap.size+2,2,none⟩=some (.int .i64 0)/\w'.cell? ⟨w.heap.size+2,3,none⟩=some (.int .i64 0)/\w'.cell? ⟨w.heap.size+2,4,none⟩=some (.slice none 0 0)/\∀ o,w'.frozen? ⟨w.heap.size+2,o,none⟩=false:=fun w' hb=>by
      have h:=hBV.later hb
      exact⟨h.z0,h.z1,h.z2,h.z3,h.z4,h.zf⟩
     have hS7:=hSl _ (Below.refl _ V).drew;clear k0 k1 k2 x0 x1 x4 z0 z1 z2 z3 z4 zf sz u3 v0 v1 v2 v3 v4
     by_cases hea:m.args=x.a
     ·have heb:(m.args == x.a)=true:=by simpa using hea
      have HST:Hid (xbg X.cz sites at' x=if xdl m then some m else none):=by show _=_;rw[HSM.out];simp[hea]
      clear hea;refine xat (S:=fun w'=>w'.cell? ⟨b12,0,none⟩=some (.string m.name)/\w'.cell? ⟨b12,1,none⟩=some (.int .i64 m.args)/\w'.cell? ⟨b12,2,none⟩=some (.int .i64 m.temps)/\w'.cell? ⟨b12,3,none⟩=some (.int .i64 m.prim)/\w'.cell? ⟨b12,4,none⟩=some (.slice ak m.code.length ck)/\w'.cell? ⟨w.heap.size+1,1,none⟩=some (.int .i64 x.a)) [] (by kernel_rfl) ?_
      refine tk 0 (⟨some 53,.load 59 (.tmp 12),59,_,_,none⟩) (MV m (.slice ak m.code.length ck)) rfl (hS7) (fun _ _ _ h=>h) rfl (by kernel_rfl) ?_ ?_
      ·rintro w⟨q0,q1,q2,q3,q4,q5⟩;go_simp
      try simp only[Act.put,qzF,qzG,qzH]
      refine tk 1 (⟨some 54,.fieldAddr 59 (.tmp 12) 1,0,_,_,none⟩) (.pointer (some ⟨b12,1,none⟩)) rfl (hS7) (fun _ _ _ h=>h) rfl (by kernel_rfl) ?_ ?_
      ·rintro w⟨q0,q1,q2,q3,q4,q5⟩;go_simp
      try simp only[Act.put,qzF,qzG,qzH]
      refine tk 2 (⟨some 55,.load 3 (.tmp 54),3,_,_,none⟩) (.int .i64 m.args) rfl (hS7) (fun _ _ _ h=>h) rfl (by kernel_rfl) ?_ ?_
      ·rintro w⟨q0,q1,q2,q3,q4,q5⟩;go_simp
      try simp only[Act.put,qzF,qzG,qzH]
      refine tk 3 (⟨some 56,.fieldAddr 57 (.tmp 7) 1,0,_,_,none⟩) (.pointer (some ⟨w.heap.size+1,1,none⟩)) rfl (hS7) (fun _ _ _ h=>h) rfl (by kernel_rfl) ?_ ?_
      ·rintro w⟨q0,q1,q2,q3,q4,q5⟩;go_simp
      try simp only[Act.put,qzF,qzG,qzH]
      refine tk 4 (⟨some 57,.load 3 (.tmp 56),3,_,_,none⟩) (.int .i64 x.a) rfl (hS7) (fun _ _ _ h=>h) rfl (by kernel_rfl) ?_ ?_
      ·rintro w⟨q0,q1,q2,q3,q4,q5⟩;go_simp
      try simp only[Act.put,qzF,qzG,qzH]
      refine tk 5 (⟨some 58,.binOp .eql 3 (.tmp 55) (.tmp 57) 3,4,_,_,none⟩) (.bool true) rfl (hS7) (fun _ _ _ h=>h) rfl (by kernel_rfl) ?_ ?_
      ·rintro w⟨q0,q1,q2,q3,q4,q5⟩;go_simp
      try simp only[Act.put,qzF,qzG,qzH]
      refine tk 6 (⟨some 59,.move (.tmp 58),4,_,_,none⟩) (.bool true) rfl (hS7) (fun _ _ _ h=>h) rfl (by kernel_rfl) ?_ ?_
      ·rintro w⟨q0,q1,q2,q3,q4,q5⟩;go_simp
      try simp only[Act.put,qzF,qzG,qzH]
      refine tk 7 (⟨some 60,.load 59 (.tmp 12),59,_,_,some (6,true)⟩) (MV m (.slice ak m.code.length ck)) rfl (hS7) (fun _ _ _ h=>h) rfl (by kernel_rfl) ?_ ?_
      ·rintro w⟨q0,q1,q2,q3,q4,q5⟩;go_simp
      try simp only[Act.put,qzF,qzG,qzH]
      refine xab (rs:=[8]) (by kernel_rfl) (by simp) ?_
      intro i hi;simp only[List.mem_cons,List.not_mem_nil,or_false] at hi;subst hi;refine xaL (o:=⟨some 61,.call ⟨.value (.func 64),#[.tmp 60],#[59]⟩,4,_,_,some (6,true)⟩) rfl (fun K' hK=>?_)
      refine xkb (by rfl) 64 (.func 64) #[.tmp 60] _ rfl #[] rfl #[MV m (.slice ak m.code.length ck)] (by simp[Act.eval,Act.put]) (cf46 _ _) ?_
      refine (show Calls Tryz.prog 64 #[MV m (.slice ak m.code.length ck)] V.drew _ from (xi5 m _ V.drew (hco.later xaV (Below.refl _ V).drew)).mono ?_)
      rintro e w5 ⟨rfl,hb5⟩;refine⟨_,rfl,?_⟩;have hbV5:Below V.heap.size V w5:=xae (Below.refl _ V).drew hb5;obtain⟨r0,r1,r2,r3,r4,rf⟩:=hZ _ hbV5;obtain⟨z0,z1,z2,z3,z4,z5⟩:=hSl _ hbV5;refine hK _ _ (fun _=>?_) ?_
      ·exact hSl _ hbV5
      clear hK K'
      try simp only[Act.put,qzF,qzG,qzH]
      refine tk 9 (⟨some 62,.pick (.tmp 59) (.tmp 61) (.const (.bool false)),4,_,_,none⟩) (.bool (xdl m)) rfl (hSl _ hbV5) (fun _ _ _ h=>h) rfl (by kernel_rfl) ?_ ?_
      ·rintro w⟨q0,q1,q2,q3,q4,q5⟩;go_simp
      try simp only[Act.put,qzF,qzG,qzH]
      refine xab (rs:=[10]) (by kernel_rfl) (by simp) ?_
      intro i hi;simp only[List.mem_cons,List.not_mem_nil,or_false] at hi;subst hi;refine xaL (o:=⟨none,.store 59 (.tmp 8) (.tmp 53),0,_,_,none⟩) rfl (fun K' hK=>?_)
      go_simp;refine hK _ _ (fun _=>?_) ?_
      ·exact⟨xcI z0 (by omega),xcI z1 (by omega),xcI z2 (by omega),xcI z3 (by omega),xcI z4 (by omega),xcI z5 (by omega)⟩
      clear hK K'
      try simp only[Act.put,qzF,qzG,qzH]
      refine tk 11 (⟨some 9,.assign (.tmp 62),4,_,_,none⟩) (.bool (xdl m)) rfl (⟨xcI z0 (by omega),xcI z1 (by omega),xcI z2 (by omega),xcI z3 (by omega),xcI z4 (by omega),xcI z5 (by omega)⟩) (fun _ _ _ h=>h) rfl (by kernel_rfl) ?_ ?_
      ·rintro w⟨q0,q1,q2,q3,q4,q5⟩;go_simp
      try simp only[Act.put,qzF,qzG,qzH]
      refine xaw (by kernel_rfl) ?_ _
      try simp only[Act.put,qzF,qzG,qzH]
      have HQ:=xb7 (xkj (U:=w5) (m:=m) (a:=ak) (c:=ck) HST.out (xae hbV hbV5) (hco.later xaV hbV5));go_wp2;refine bodyPost_ret (v:=.tuple #[MV m (.slice ak m.code.length ck),.bool (xdl m)]) ?_ rfl HQ.out
      simp[results,Tryz.results41,go_sem,r0,r1,r2,r3,r4]
     ·have heb:(m.args == x.a)=false:=by simpa using hea
      have HST:Hid (xbg X.cz sites at' x=if false then some m else none):=by show _=_;rw[HSM.out];simp[hea]
      clear hea;refine xat (S:=fun w'=>w'.cell? ⟨b12,0,none⟩=some (.string m.name)/\w'.cell? ⟨b12,1,none⟩=some (.int .i64 m.args)/\w'.cell? ⟨b12,2,none⟩=some (.int .i64 m.temps)/\w'.cell? ⟨b12,3,none⟩=some (.int .i64 m.prim)/\w'.cell? ⟨b12,4,none⟩=some (.slice ak m.code.length ck)/\w'.cell? ⟨w.heap.size+1,1,none⟩=some (.int .i64 x.a)) [] (by kernel_rfl) ?_
      refine tk 0 (⟨some 53,.load 59 (.tmp 12),59,_,_,none⟩) (MV m (.slice ak m.code.length ck)) rfl (hS7) (fun _ _ _ h=>h) rfl (by kernel_rfl) ?_ ?_
      ·rintro w⟨q0,q1,q2,q3,q4,q5⟩;go_simp
      try simp only[Act.put,qzF,qzG,qzH]
      refine tk 1 (⟨some 54,.fieldAddr 59 (.tmp 12) 1,0,_,_,none⟩) (.pointer (some ⟨b12,1,none⟩)) rfl (hS7) (fun _ _ _ h=>h) rfl (by kernel_rfl) ?_ ?_
      ·rintro w⟨q0,q1,q2,q3,q4,q5⟩;go_simp
      try simp only[Act.put,qzF,qzG,qzH]
      refine tk 2 (⟨some 55,.load 3 (.tmp 54),3,_,_,none⟩) (.int .i64 m.args) rfl (hS7) (fun _ _ _ h=>h) rfl (by kernel_rfl) ?_ ?_
      ·rintro w⟨q0,q1,q2,q3,q4,q5⟩;go_simp
      try simp only[Act.put,qzF,qzG,qzH]
      refine tk 3 (⟨some 56,.fieldAddr 57 (.tmp 7) 1,0,_,_,none⟩) (.pointer (some ⟨w.heap.size+1,1,none⟩)) rfl (hS7) (fun _ _ _ h=>h) rfl (by kernel_rfl) ?_ ?_
      ·rintro w⟨q0,q1,q2,q3,q4,q5⟩;go_simp
      try simp only[Act.put,qzF,qzG,qzH]
      refine tk 4 (⟨some 57,.load 3 (.tmp 56),3,_,_,none⟩) (.int .i64 x.a) rfl (hS7) (fun _ _ _ h=>h) rfl (by kernel_rfl) ?_ ?_
      ·rintro w⟨q0,q1,q2,q3,q4,q5⟩;go_simp
      try simp only[Act.put,qzF,qzG,qzH]
      refine tk 5 (⟨some 58,.binOp .eql 3 (.tmp 55) (.tmp 57) 3,4,_,_,none⟩) (.bool false) rfl (hS7) (fun _ _ _ h=>h) rfl (by kernel_rfl) ?_ ?_
      ·rintro w⟨q0,q1,q2,q3,q4,q5⟩;go_simp
      try simp only[Act.put,qzF,qzG,qzH]
      refine tk 6 (⟨some 59,.move (.tmp 58),4,_,_,none⟩) (.bool false) rfl (hS7) (fun _ _ _ h=>h) rfl (by kernel_rfl) ?_ ?_
      ·rintro w⟨q0,q1,q2,q3,q4,q5⟩;go_simp
      try simp only[Act.put,qzF,qzG,qzH]
      refine xdG (i:=7) (oi:=⟨some 60,.load 59 (.tmp 12),59,_,_,some (6,true)⟩) (v:=undef) (by kernel_rfl) (by kernel_rfl) rfl (by kernel_rfl) (by kernel_rfl) (by kernel_rfl) (fun _ _ _ h=>h) (Or.inr ⟨by rfl,rfl⟩) (hS7) ?_
      try simp only[Act.put,qzF,qzG,qzH]
      refine xdG (i:=8) (oi:=⟨some 61,.call ⟨.value (.func 64),#[.tmp 60],#[59]⟩,4,_,_,some (6,true)⟩) (v:=undef) (by kernel_rfl) (by kernel_rfl) rfl (by kernel_rfl) (by kernel_rfl) (by kernel_rfl) (fun _ _ _ h=>h) (Or.inr ⟨by rfl,rfl⟩) (hS7) ?_
      try simp only[Act.put,qzF,qzG,qzH]
      refine tk 9 (⟨some 62,.pick (.tmp 59) (.tmp 61) (.const (.bool false)),4,_,_,none⟩) (.bool false) rfl (hS7) (fun _ _ _ h=>h) rfl (by kernel_rfl) ?_ ?_
      ·rintro w⟨q0,q1,q2,q3,q4,q5⟩;go_simp
      try simp only[Act.put,qzF,qzG,qzH]
      refine xab (rs:=[10]) (by kernel_rfl) (by simp) ?_
      intro i hi;simp only[List.mem_cons,List.not_mem_nil,or_false] at hi;subst hi;refine xaL (o:=⟨none,.store 59 (.tmp 8) (.tmp 53),0,_,_,none⟩) rfl (fun K' hK=>?_)
      obtain⟨r0,r1,r2,r3,r4,rf⟩:=hZ _ (Below.refl _ V);obtain⟨z0,z1,z2,z3,z4,z5⟩:=hSl _ (Below.refl _ V);go_simp;refine hK _ _ (fun _=>?_) ?_
      ·exact⟨qzA (Below.refl _ _).drew (xcI z0 (by omega)),qzA (Below.refl _ _).drew (xcI z1 (by omega)),qzA (Below.refl _ _).drew (xcI z2 (by omega)),qzA (Below.refl _ _).drew (xcI z3 (by omega)),qzA (Below.refl _ _).drew (xcI z4 (by omega)),qzA (Below.refl _ _).drew (xcI z5 (by omega))⟩
      clear hK K'
      try simp only[Act.put,qzF,qzG,qzH]
      refine tk 11 (⟨some 9,.assign (.tmp 62),4,_,_,none⟩) (.bool false) rfl (⟨qzA (Below.refl _ _).drew (xcI z0 (by omega)),qzA (Below.refl _ _).drew (xcI z1 (by omega)),qzA (Below.refl _ _).drew (xcI z2 (by omega)),qzA (Below.refl _ _).drew (xcI z3 (by omega)),qzA (Below.refl _ _).drew (xcI z4 (by omega)),qzA (Below.refl _ _).drew (xcI z5 (by omega))⟩) (fun _ _ _ h=>h) rfl (by kernel_rfl) ?_ ?_
      ·rintro w⟨q0,q1,q2,q3,q4,q5⟩;go_simp
      try simp only[Act.put,qzF,qzG,qzH]
      refine xaw (by kernel_rfl) ?_ _
      try simp only[Act.put,qzF,qzG,qzH]
      have HQ:=xb7 (xkj (U:=V) (m:=m) (a:=ak) (c:=ck) (b:=false) HST.out hbV hco);obtain⟨r0,r1,r2,r3,r4,rf⟩:=hZ _ (Below.refl _ V);go_wp2;refine bodyPost_ret (v:=.tuple #[MV m (.slice ak m.code.length ck),.bool false]) ?_ rfl HQ.out.drew
      simp[results,Tryz.results41,go_sem,r0,r1,r2,r3,r4]
  ·have hge:(sites.length:Int)<=(at':Int):=by omega
   have HZ:=xb7 (HN.out W hbW (by unfold xbg;rw[if_neg (by rw[List.getD_eq_getElem?_getD,List.getElem?_eq_none (by omega)];simp)]))
   clear hrow;go_wp2;refine bodyPost_ret (v:=.tuple #[MV zM0 (.slice none 0 0),.bool false]) ?_ rfl HZ.out
   simp[results,Tryz.results41,go_sem,z0,z1,z2,z3,z4]
 ·have hd:(x.op == 14)=false:=by simpa using hop
  have hdn:(x.op != 14)=true:=by simpa using hop
  have HZ:=xb7 (HN.out W hbW (by unfold xbg;rw[if_neg (by omega)]))
  clear hop;go_wp2;refine bodyPost_ret (v:=.tuple #[MV zM0 (.slice none 0 0),.bool false]) ?_ rfl HZ.out
  simp[results,Tryz.results41,go_sem,z0,z1,z2,z3,z4]
structure Sml (m:QM):Prop where
 args:0<=m.args/\m.args<=4
 temps:0<=m.temps/\m.temps<=6
 len:m.code.length<=60
 code:∀ x∈m.code,(x.op=2\/x.op=3\/x.op=11\/x.op=15\/x.op=16)->0<=x.a/\x.a<=1000
 jump:∀ x∈m.code,(x.op=15\/x.op=16)->0<=x.a/\x.a<m.code.length
 plain:∀ x∈m.code,1<=x.op/\x.op<=17/\x.b=0/\x.c=0/\(x.op≠14->xlh x.name=true)
theorem xku {X:QW}(h:xaW X=0){c n:Int}{m:QM}(hm:xaJ X.cz c n=some m)(hp0:m.prim≠0):m.args=1/\m.temps=0/\m.code=[]:=by
 rcases xdm h hm with ⟨-,-⟩ | ⟨h0,-⟩
 ·obtain⟨hs,-,hk,-⟩:=xcg h;unfold xaJ at hm
  cases hx:xbo X.cz c with
  | none=>rw[hx] at hm;cases hm
  | some x=>
   rw[hx] at hm;simp only[Option.bind_some] at hm;obtain⟨k,rfl,hx'⟩:=xa4 hx
   split at hm
   ·have hr:=hk k x (xag hx') hx';unfold rkE at hr
    split at hr
    ·cases hr
    ·split at hr
     ·cases hr
     ·have hq:=xbE hr _ _ hm;unfold rmE at hq
      split at hq
      ·cases hq
      ·split at hq
       ·rename_i hp;unfold xfS at hp;rw[List.any_eq_true] at hp;obtain⟨p,hpm,hp⟩:=hp;simp only[Bool.and_eq_true,decide_eq_true_eq] at hp
        exact⟨hp.1.1.2,hp.1.2,List.eq_nil_of_length_eq_zero hp.2⟩
       ·exfalso;unfold xdB at hq
        split at hq
        ·rename_i a;exact absurd hq a
        ·rename_i a;have hw:wmE X.cz.length k m=0:=Decidable.of_not_not a;unfold wmE at hw
         split at hw
         ·cases hw
         ·split at hw
          ·cases hw
          ·split at hw
           ·cases hw
           ·cases hw
   ·cases hm
 ·exact absurd h0 hp0
theorem xfZ {X:QW}(h:xaW X=0){c n:Int}{m:QM}(hm:xaJ X.cz c n=some m):Sml m:=by
 by_cases hp0:m.prim=0
 ·rcases xdm h hm with ⟨h0,-⟩ | ⟨-,S,N,hw,hn,-⟩
  ·exact absurd hp0 h0
  ·unfold wmE at hw
   split at hw
   ·cases hw
   ·split at hw
    ·cases hw
    ·split at hw
     ·cases hw
     ·rename_i hat
      split at hw
      ·cases hw
      ·split at hw
       ·cases hw
       ·rename_i hlen
        simp[inR] at hat hlen
        have hl:m.code.length<=60:=by omega
        refine⟨by omega,by omega,hl,fun x hx ho=>?_,fun x hx ho=>?_,fun x hx=>?_⟩
        ·have hx':=hn x hx;obtain⟨n1,n2,n3,n4,n5,n6,n7⟩:=xfj hx'
         rcases ho with ho | ho | ho | ho | ho
         ·have:=n3 ho;omega
         ·have:=n4 (Or.inl ho);omega
         ·have:=n4 (Or.inr ho);omega
         ·unfold xfm at hx'
          split at hx'
          ·cases hx'
          ·split at hx'
           ·cases hx'
           ·rename_i hra;simp[raE,ho,inR] at hra;omega
         ·unfold xfm at hx'
          split at hx'
          ·cases hx'
          ·split at hx'
           ·cases hx'
           ·rename_i hra;simp[raE,ho,inR] at hra;omega
        ·have hx':=hn x hx;unfold xfm at hx'
         split at hx'
         ·cases hx'
         ·split at hx'
          ·cases hx'
          ·rename_i hra
           rcases ho with ho | ho<;>(simp[raE,ho,inR] at hra;omega)
        ·have hx':=hn x hx;obtain⟨n1,n2,n3,n4,n5,n6,n7⟩:=xfj hx';refine⟨n1,n2,n6,n7,fun h14=>?_⟩
         unfold xfm at hx'
         split at hx'
         ·cases hx'
         ·split at hx'
          ·cases hx'
          ·split at hx'
           ·cases hx'
           ·rename_i hr
            have hrn:rnB x=true:=by
             cases hb:rnB x with
             | true=>rfl
             | false=>exact absurd (Or.inl hb) hr
            unfold rnB at hrn;rw[if_neg h14] at hrn
            exact hrn
 ·obtain⟨h1,h2,h3⟩:=xku h hm hp0;refine⟨by omega,by omega,by rw[h3];simp,fun x hx=>(by rw[h3] at hx;cases hx),fun x hx=>(by rw[h3] at hx;cases hx),fun x hx=>(by rw[h3] at hx;cases hx)⟩
theorem xhj {xs:List QC}{k:Int}{name:ByteArray}{m:QM}(h:xeH xs k name=some m):xaJ xs (xaF xs k name).1 (xaF xs k name).2=some m:=by
 unfold xeH at h
 split at h
 ·cases h
 ·rename_i h2;unfold xaJ xbo
  rcases xem xs k name with ⟨-,h3⟩ | ⟨q,x,t,y,he,hx,hm⟩
  ·exact absurd h3 h2
  ·rw[he] at h ⊢
   simp[hx,hm] at h ⊢
   exact h
theorem xeM {X:QW}(h:xaW X=0){sites:List Int}{at':Nat}{x:QI}{m:QM}(hs:xbg X.cz sites at' x=some m):Sml m/\m.args=x.a/\xdl m=true/\x.op=14:=by
 unfold xbg at hs
 split at hs
 ·rename_i ho
  split at hs
  ·cases hs
  ·rename_i m' hm
   split at hs
   ·rename_i hc
    cases hs
    exact⟨xfZ h (xhj hm),hc.1,hc.2,ho.1⟩
   ·cases hs
 ·cases hs
theorem xdC {X:QW}(h:xaW X=0){sites:List Int}{m:QM}(hm:Sml m):∀ {k:Nat},k<=m.code.length->(xaD X.cz sites m k).code.length+(m.code.length-k)<=240/\0<=(xaD X.cz sites m k).temps/\(xaD X.cz sites m k).temps<=40/\(xaD X.cz sites m k).pieces<=k
 | 0,_=>by have:=hm.len;have:=hm.temps;exact⟨by simp[xaD];omega,by simp[xaD];omega,by simp[xaD];omega,qzC _⟩
 | k+1,hk=>by
  obtain⟨i1,i2,i3,i4⟩:=xdC h hm (sites:=sites) (k:=k) (by omega)
  rw[xbU (List.getElem?_eq_getElem (by omega))]
  generalize xaD X.cz sites m k=s at *;generalize m.code[k]=x;unfold xeu xl1
  cases hst:xbg X.cz sites k x with
  | none=>simp only[List.length_append,List.length_cons,List.length_nil];omega
  | some leaf=>
   obtain⟨hsm,-⟩:=xeM h hst
   by_cases hr:xft s.code.length s.temps leaf ((m.code.length:Int)-k)=true
   ·simp only[hr,if_true,List.length_append,xdo];unfold xft at hr;have hr':=of_decide_eq_true hr;have:=hsm.args;have:=hsm.temps
    omega
   ·simp only[hr,if_false,List.length_append,List.length_cons,List.length_nil]
    simp
    omega
structure MtL (Z:World)(bm:Nat)(m:QM)(kv:Value)(c ep tm:Int)(code:List QI)(bl:List Int)(a:Option Addr)(cap:Nat)(wr:World):Prop where
 os:wr.os=Z.os
 tape:wr.tape=Z.tape
 output:wr.output=Z.output
 sz:bm+3<=wr.heap.size
 fix:∀ b,b<bm->wr.heap[b]?=Z.heap[b]?
 mb:wr.heap[bm]?=some (.cells #[.string m.name,.int .i64 m.args,.int .i64 m.temps,.int .i64 m.prim,kv] 59 (0,0))
 fb:wr.heap[bm+1]?=some (.cells #[.int .i64 c,.string m.name,.int .i64 ep,.int .i64 tm,.slice a code.length cap] 49 (0,0))
 gb:wr.heap[bm+2]?=some (.cells (bl.map (Value.int .i64)).toArray 3 (0,0))
 own:OwnI wr (bm+3) a cap code
section
variable {Z:World} {bm:Nat} {m:QM} {kv:Value} {c ep tm:Int} {code:List QI} {bl:List Int} {a:Option Addr} {cap:Nat} {wr w':World}
theorem MtL.later (h:MtL Z bm m kv c ep tm code bl a cap wr)(hb:Below wr.heap.size wr w'):MtL Z bm m kv c ep tm code bl a cap w':=
 ⟨hb.os.trans h.os,hb.tape.trans h.tape,hb.output.trans h.output,qzD h.sz hb.size,fun b hb'=>(hb.block b (by have:=h.sz;omega)).trans (h.fix b hb'),xad h.mb hb,xad h.fb hb,xad h.gb hb,h.own.keep fun g hg=>hb.block g (h.own.lt g hg).2⟩
theorem MtL.setG (h:MtL Z bm m kv c ep tm code bl a cap wr)(j:Nat)(t:Int):MtL Z bm m kv c ep tm code (bl.set j t) a cap (wr.setCell ⟨bm+2,j,none⟩ (.int .i64 t)):=by
 have hd:Below 0 wr (wr.setCell ⟨bm+2,j,none⟩ (.int .i64 t)):=(Below.refl 0 wr).setCell (Nat.zero_le _) _;refine⟨hd.os.trans h.os,hd.tape.trans h.tape,hd.output.trans h.output,by rw[xa3];exact h.sz,fun b hb=>by rw[xac (by omega)];exact h.fix b hb,by rw[xac (by omega)];exact h.mb,by rw[xac (by omega)];exact h.fb,?_,h.own.keep fun g hg=>xac (by have:=(h.own.lt g hg).1;omega) _⟩
 rw[xah h.gb,List.map_set]
 simp
theorem MtL.setT (h:MtL Z bm m kv c ep tm code bl a cap wr)(t:Int):MtL Z bm m kv c ep t code bl a cap (wr.setCell ⟨bm+1,3,none⟩ (.int .i64 t)):=by
 have hd:Below 0 wr (wr.setCell ⟨bm+1,3,none⟩ (.int .i64 t)):=(Below.refl 0 wr).setCell (Nat.zero_le _) _;refine⟨hd.os.trans h.os,hd.tape.trans h.tape,hd.output.trans h.output,by rw[xa3];exact h.sz,fun b hb=>by rw[xac (by omega)];exact h.fix b hb,by rw[xac (by omega)];exact h.mb,?_,by rw[xac (by omega)];exact h.gb,h.own.keep fun g hg=>xac (by have:=(h.own.lt g hg).1;omega) _⟩
 rw[xah h.fb];rfl
theorem MtL.setC {U:World}{a':Option Addr}{cap':Nat}{ys:List QI}(h:MtL Z bm m kv c ep tm code bl a cap U)(r1:OwnI w' (bm+3) a' cap' (code++ys))(r3:Below (bm+3) U w'):MtL Z bm m kv c ep tm (code++ys) bl a' cap' (w'.setCell ⟨bm+1,4,none⟩ (.slice a' (code++ys).length cap')):=by
 have hd:Below 0 w' (w'.setCell ⟨bm+1,4,none⟩ (.slice a' (code++ys).length cap')):=(Below.refl 0 w').setCell (Nat.zero_le _) _;have hs:=h.sz;refine⟨hd.os.trans (r3.os.trans h.os),hd.tape.trans (r3.tape.trans h.tape),hd.output.trans (r3.output.trans h.output),by rw[xa3];exact qzD hs r3.size,fun b hb=>by rw[xac (by omega),r3.block b (by omega)];exact h.fix b hb,by rw[xac (by omega),r3.block _ (by omega)];exact h.mb,?_,by rw[xac (by omega),r3.block _ (by omega)];exact h.gb,r1.keep fun g hg=>xac (by have:=(r1.lt g hg).1;omega) _⟩
 rw[xah (show w'.heap[bm+1]?=_ by rw[r3.block _ (by omega)];exact h.fb)];rfl
theorem MtL.below {w:World}(h:MtL Z bm m kv c ep tm code bl a cap wr)(hb:Below w.heap.size w Z)(hl:w.heap.size<=bm):Below w.heap.size w wr:=⟨h.os.trans hb.os,h.tape.trans hb.tape,h.output.trans hb.output,by have:=h.sz;omega,fun b hb'=>(h.fix b (by omega)).trans (hb.block b hb')⟩
theorem MtL.f0 (h:MtL Z bm m kv c ep tm code bl a cap wr):wr.cell? ⟨bm+1,0,none⟩=some (.int .i64 c):=by rw[qzB h.fb];rfl
theorem MtL.f1 (h:MtL Z bm m kv c ep tm code bl a cap wr):wr.cell? ⟨bm+1,1,none⟩=some (.string m.name):=by rw[qzB h.fb];rfl
theorem MtL.f2 (h:MtL Z bm m kv c ep tm code bl a cap wr):wr.cell? ⟨bm+1,2,none⟩=some (.int .i64 ep):=by rw[qzB h.fb];rfl
theorem MtL.f3 (h:MtL Z bm m kv c ep tm code bl a cap wr):wr.cell? ⟨bm+1,3,none⟩=some (.int .i64 tm):=by rw[qzB h.fb];rfl
theorem MtL.f4 (h:MtL Z bm m kv c ep tm code bl a cap wr):wr.cell? ⟨bm+1,4,none⟩=some (.slice a code.length cap):=by rw[qzB h.fb];rfl
theorem MtL.m4 (h:MtL Z bm m kv c ep tm code bl a cap wr):wr.cell? ⟨bm,4,none⟩=some kv:=by rw[qzB h.mb];rfl
theorem MtL.g (h:MtL Z bm m kv c ep tm code bl a cap wr){j:Nat}{t:Int}(hj:bl[j]?=some t):wr.cell? ⟨bm+2,j,none⟩=some (.int .i64 t):=by rw[qzB h.gb];simp[hj]
theorem MtL.ff (h:MtL Z bm m kv c ep tm code bl a cap wr)(o:Nat):wr.frozen? ⟨bm+1,o,none⟩=false:=xbB h.fb o
theorem MtL.gf (h:MtL Z bm m kv c ep tm code bl a cap wr)(o:Nat):wr.frozen? ⟨bm+2,o,none⟩=false:=xbB h.gb o
theorem MtL.old (h:MtL Z bm m kv c ep tm code bl a cap wr){b o:Nat}{v:Value}(hb:b<bm)(hv:Z.cell? ⟨b,o,none⟩=some v):wr.cell? ⟨b,o,none⟩=some v:=by
 unfold World.cell? at hv ⊢;rw[h.fix b hb];exact hv
theorem MtL.capOk (h:MtL Z bm m kv c ep tm code bl a cap wr):code.length<=cap/\cap<=9223372036854775807:=by
 obtain⟨a',c',e,h1,h2⟩:=h.own.form
 cases e;unfold maxLen at h2;exact⟨h1,by omega⟩
end
theorem xf3 {s:List Int}{n j:Nat}{t:Int}(hs:s.length=j)(hj:j<n):(s++List.replicate (n-j) 0).set j t=s++[t]++List.replicate (n-(j+1)) 0:=by
 rw[show n-j=(n-(j+1))+1 by omega,List.replicate_succ,List.set_append]
 simp[hs]
def xhW (w:World)(r:Fst × Bool)(e:Ending)(w':World):Prop:=
 ∃ a cap,e=.returned (.tuple #[FsV r.1 (.slice a r.1.code.length cap),.bool r.2])/\xaK (fun b=>w.heap.size<=b/\b<w'.heap.size) w' (.slice a r.1.code.length cap) r.1.code/\Below w.heap.size w w'
end Go.Proofs.YtaodadfahifbpaaGreat
