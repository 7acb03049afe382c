/- A part. -/
import Derived.Test.YtapbeiccodnniaaGreatM12
namespace Go.Proofs.YtapbeiccodnniaaGreat
open Go.ChangeShapes Go.WideShapes Go.ChangeAt Go.RowKit
set_option linter.unusedSimpArgs false
set_option linter.unusedVariables false
set_option maxHeartbeats 8000000
set_option maxRecDepth 8000
theorem xpz (w:World)(n:Nat):w.drew.heap[n]?=w.heap[n]?:=rfl
def xqc (ls:List QL)(c:Int):Bool:=ls.any fun y=>y.cls == c
theorem xqE (ls:List QL)(y:QL)(c:Int):xqc (ls++[y]) c=(xqc ls c || y.cls == c):=by simp[xqc]
theorem xqb (ls:List QL)(c:Int):xqc ls c=true ↔ 0<=xbt (fun y:QL=>y.cls == c) ls:=by
 rcases xb2 (fun y:QL=>y.cls == c) ls with hf | ⟨j,y,hf,hy,hp,-⟩
 ·rw[hf];have:=xhC hf;rw[List.find?_eq_none] at this
  constructor
  ·intro h;unfold xqc at h;rw[List.any_eq_true] at h;obtain⟨y,hy,hc⟩:=h
   exact absurd hc (this y hy)
  ·intro h;omega
 ·rw[hf];refine⟨fun _=>by omega,fun _=>?_⟩
  unfold xqc;rw[List.any_eq_true]
  exact⟨y,List.mem_of_getElem? hy,hp⟩
theorem xp8 {x:QE}{y:QL}(h:(x.many || xqc x.lz y.cls)=true):xax x y=x:=by
 unfold xax;rw[if_pos];rw[Bool.or_eq_true] at h
 rcases h with h | h
 ·exact Or.inl h
 ·exact Or.inr ((xqb _ _).1 h)
theorem xpM {x:QE}{y:QL}(h:(x.many || xqc x.lz y.cls)=false):xax x y=if 3<=x.lz.length then ⟨x.site,x.ez,true,[]⟩ else ⟨x.site,x.ez,false,x.lz++[y]⟩:=by
 rw[Bool.or_eq_false_iff] at h;unfold xax;rw[if_neg,h.1];rw[h.1,← xqb,h.2]
 simp
theorem xqq (Z:Nat->Prop)(B:Nat)(hz:∀ b,B<=b->Z b)(s:QS)(ep c fd:Int)(ov:Value)(pre:List QE)(d:Bool)(x:QE)(lv:Value)(w:World)(h:PutR Z B s ep c fd ov pre d w)(hl:xbI (fun b=>Z b/\b<B) w lv x.lz)(hb1:pre.length+1<=maxLen)(hb2:(pre.length+1)*72<=190000000000000) :
  Calls Tryz.prog 48 #[EV x lv,.pointer (some ⟨B+1,0,none⟩),.pointer (some ⟨B,0,none⟩),.pointer (some ⟨B+2,0,none⟩),.pointer (some ⟨B+3,0,none⟩),.pointer (some ⟨B+4,0,none⟩),.pointer (some ⟨B+5,0,none⟩)] w
   fun e w'=>e=.returned (.tuple #[])/\∃ ov',PutR Z B s ep c fd ov' (pre++[xax (xbS x s ep) ⟨c,fd⟩]) true w'/\Below (B+4) w w':=by
 obtain⟨X,LV',hX,hXl,hXL⟩:∃ X LV',X=xbS x s ep/\(LV'=(if x.ez=ep then lv else .slice none 0 0))/\xbI (fun b=>Z b/\b<B) w LV' X.lz:=by
  refine⟨_,_,rfl,rfl,?_⟩;unfold xbS
  by_cases he:x.ez=ep
  ·rw[if_pos he,if_pos he];exact hl
  ·rw[if_neg he,if_neg he];exact⟨none,0,rfl,by simp,by simp,by simp,fun i x hx=>by simp at hx⟩
 have hbx:=xaj w (.cells #[.int .i64 X.site.cls,.string X.site.name,.int .i64 X.site.at',.int .i64 X.ez,.bool X.many,LV'] 70);have hbox:=xgx w X LV' 70;have hP1:=h.later hbx;have hl1:=hXL.later xbq hbx;have hz1:(w.alloc (.cells #[.int .i64 X.site.cls,.string X.site.name,.int .i64 X.site.at',.int .i64 X.ez,.bool X.many,LV'] 70)).heap.size=w.heap.size+1:=by simp
 have hfz1:=fun o=>xeu w #[.int .i64 X.site.cls,.string X.site.name,.int .i64 X.site.at',.int .i64 X.ez,.bool X.many,LV'] 70 w.heap.size o rfl
 obtain⟨s0,s1,s2⟩:=id h.site;have k0:=fun y=>qzA (xaj w y) s0
 have k1:=fun y=>qzA (xaj w y) s1
 have k2:=fun y=>qzA (xaj w y) s2
 have ke:=fun y=>qzA (xaj w y) h.e
 have hzB:=h.sz;rw[← hX];go_enter Tryz.func48,Tryz.ntmps48
 go_upto_if 14 with (fail)
 go_cut [] (fun wx=>wx=(w.alloc (.cells #[.int .i64 X.site.cls,.string X.site.name,.int .i64 X.site.at',.int .i64 X.ez,.bool X.many,LV'] 70)))
 case first=>
  by_cases he:x.ez=ep
  ·have hd:(x.ez != ep)=false:=by simpa using he
   have HXX:Hid (X=x):=by show _=_;rw[hX];unfold xbS;rw[if_pos he]
   have HLL:Hid (LV'=lv):=by show _=_;rw[hXl,if_pos he]
   clear hX hXl hXL hbx hbox hP1 hl1 hz1 hfz1 he;go_wp2_with fail
   go_meet
   case rel=>rw[HXX.out,HLL.out]
  ·have hd:(x.ez != ep)=true:=by simpa using he
   have HXX:Hid (X=⟨s,ep,false,[]⟩):=by show _=_;rw[hX];unfold xbS;rw[if_neg he]
   have HLL:Hid (LV'=.slice none 0 0):=by show _=_;rw[hXl,if_neg he]
   clear hX hXl hXL hbx hbox hP1 hl1 hz1 hfz1;go_wp2_with fail
   go_meet
   case rel=>rw[HXX.out,HLL.out]
 case rest=>
  subst hcut;clear hX hXl hXL hl k0 k1 k2 ke s0 s1 s2;generalize (w.alloc (.cells #[.int .i64 X.site.cls,.string X.site.name,.int .i64 X.site.at',.int .i64 X.ez,.bool X.many,LV'] 70))=W1 at *;have hbw1:Below (B+4) w W1:=hbx.mono (by omega)
  have HP0:Hid (∀ w',Below w.heap.size w w'->PutR Z B s ep c fd ov pre d w'):=fun w' hb=>h.later hb
  have HQ:Hid (∀ w',Below W1.heap.size W1 w'->Below w.heap.size w w'):=fun w' hb=>hbx.trans (hb.mono hbx.size)
  clear hbx h;generalize w.heap.size=XB at *;obtain⟨c0,c1,c2,c3,c4,c5⟩:=id hbox;obtain⟨al,cl,rfl,hcl1,hcl2,-,-⟩:=id hl1;unfold maxLen at hcl2;go_wp2
  go_loopg [8,23] X.lz.length (fun g hs i wr=>∃ q:Nat,q+g=X.lz.length/\i=.int .i64 q/\hs=.bool (X.many || xqc (X.lz.take q) c)/\Below W1.heap.size W1 wr)
  case atStart=>exact⟨0,by omega,rfl,by simp[xqc],qzL _ _⟩
  case round=>
   obtain⟨q,hq,rfl,rfl,hbq⟩:=hrel;have hPq:=hP1.later hbq;have hboxq:=hbox.later hbq;have hlq:=hl1.later xbq hbq;have hzq:=hbq.size
   by_cases hltq:q<X.lz.length
   ·obtain⟨ad3,cap3,e3,-,-,-,hrow3⟩:=id hlq;simp only[Value.slice.injEq] at e3;obtain⟨rfl,-,-⟩:=e3;obtain⟨b3,o3,rfl,-,y0,y1⟩:=hrow3 q X.lz[q] (by simp[hltq])
    have hyq:Hid (X.lz[q]?=some X.lz[q]):=by show _=_;simp[hltq]
    generalize X.lz[q]=y at *;have HN:Hid (xqc (X.lz.take (q+1)) c=(xqc (X.lz.take q) c || y.cls == c)):=by show _=_;rw[xpB hyq.out,xqE]
    simp only[Nat.add_zero] at y0;have hq1:(q:Int)<(X.lz.length:Int):=by omega
    have hq0:(0:Int)<=(q:Int):=by omega
    have hby:=xaj wr (Obj.cells #[Value.int .i64 y.cls,Value.int .i64 y.found] 72);have kc:=fun y=>qzA (xaj wr y) hPq.c
    clear hrow3
    cases hH:(X.many || xqc (X.lz.take q) c) with
    | true=>
     have HR:Hid ((X.many || xqc (X.lz.take (q+1)) c)=true):=by show _=_;rw[HN.out,← Bool.or_assoc,hH];rfl
     clear hH;go_wp2
     go_roundg (gk-1)
     case measure=>omega
     case rel=>exact⟨q+1,by omega,by go_num,by rw[HR.out],xah hbq hby⟩
    | false=>
     have HR:Hid ((X.many || xqc (X.lz.take (q+1)) c)=(y.cls == c)):=by show _=_;rw[HN.out,← Bool.or_assoc,hH];rfl
     clear hH;go_wp2
     go_roundg (gk-1)
     case measure=>omega
     case rel=>exact⟨q+1,by omega,by go_num,by rw[HR.out],xah hbq hby⟩
   ·obtain rfl:q=X.lz.length:=by omega
    have HTq:Hid (X.lz.take X.lz.length=X.lz):=List.take_of_length_le (qzC _);rw[HTq.out];have hbwq:Below (B+4) w wr:=hbw1.trans (hbq.mono (by omega))
    have hfq:=fun o=>(hbq.frozen (p:=⟨XB,o,none⟩) (by simp;omega)).trans (hfz1 o)
    clear hP1 hbox hl1 hfz1 hbw1 c0 c1 c2 c3 c4 c5;obtain⟨c0,c1,c2,c3,c4,c5⟩:=id hboxq;have eo:=hPq.o;have fo:=hPq.fo;have ed:=hPq.d;have fd':=hPq.fd;obtain⟨aov,cov,rfl⟩:=hPq.out.form;have hob:=hPq.out.block
    cases hH:(X.many || xqc X.lz c) with
    | true=>
     have HW:Hid (xax X ⟨c,fd⟩=X):=xp8 hH;clear hH
     go_wp2_with (at_builtin;refine xpl xbw rfl (.tmp 57) (.tmp 59) 31 rfl 70 _ 72 Tryz.underlying31 xmQ rfl (B+6) _ pre rfl (hPq.out.later xbw (xaj _ _)) _ 70 [.int .i64 X.site.cls,.string X.site.name,.int .i64 X.site.at',.int .i64 X.ez,.bool X.many,.slice al X.lz.length cl] rfl (qzJ _ _) rfl X (R':=fun b=>Z b/\b<B) ⟨rfl,rfl,rfl,rfl,rfl,_,rfl,hlq.later xbq (xaj _ _)⟩ (fun b hb=>⟨⟨hb.1,Or.inl hb.2⟩,by simp;omega,fun e=>by have:=(hob b e.symm).1;omega⟩) (by simp;omega) hb1 ⟨hb2,by decide⟩ ?_;intro g3 cap3 w3 hout3 hbel3;have hb3:=((xaj _ _).mono (show B+6<=wr.heap.size by omega)).trans hbel3;have hP3:=hPq.next hb3 hout3;have ed3:=hP3.d;have fd3:=hP3.fd;have eo3:=(hb3.cell (p:=⟨B+4,0,none⟩) (by simp)).trans eo;have fo3:=(hb3.frozen (p:=⟨B+4,0,none⟩) (by simp)).trans fo)
     refine bodyPost_end (v:=.tuple #[]) (by simp[results,Tryz.results48,go_sem]) rfl ⟨rfl,_,by rw[HW.out];exact hP3.done true,((hbwq.trans (hb3.mono (by omega))).setCell (by simp) _).setCell (by simp) _⟩
    | false=>
     have hbXw:=HQ.out _ hbq;have hne4:¬ XB=B+4:=by omega
     have hne5:¬ XB=B+5:=by omega
     have hne4':¬ B+4=XB:=by omega
     have hne5':¬ B+5=XB:=by omega
     by_cases h3:3<=X.lz.length
     ·have h3':(3:Int)<=(X.lz.length:Int):=by omega
      have HW:Hid (xax X ⟨c,fd⟩=⟨X.site,X.ez,true,[]⟩):=by show _=_;rw[xpM hH,if_pos h3]
      clear hH;have hS4:=(hbXw.setCell (p:=⟨XB,4,none⟩) (qzC _) (.bool true)).setCell (p:=⟨XB,5,none⟩) (qzC _) (.slice none 0 0);have hP4:=HP0.out _ hS4;have hz4:=hP4.sz;have eo4:=hP4.o;have fo4:=hP4.fo;have ob4:=hP4.out.block
      go_wp2_with (at_builtin;refine xpl xbw rfl (.tmp 57) (.tmp 59) 31 rfl 70 _ 72 Tryz.underlying31 xmQ rfl (B+6) _ pre rfl (hP4.out.later xbw (xaj _ _)) _ 70 [.int .i64 X.site.cls,.string X.site.name,.int .i64 X.site.at',.int .i64 X.ez,.bool true,.slice none 0 0] rfl (xp0 _ _ _ (by simp)) rfl ⟨X.site,X.ez,true,[]⟩ (R':=fun b=>False) ⟨rfl,rfl,rfl,rfl,rfl,_,rfl,none,0,rfl,by simp,by simp,by simp,fun i x hx=>by simp at hx⟩ (fun b hb=>hb.elim) (by simp;omega) hb1 ⟨hb2,by decide⟩ ?_;intro g3 cap3 w3 hout3 hbel3;have hb3:=((xaj _ _).mono hz4).trans hbel3;have hP3:=hP4.next hb3 hout3;have ed3:=hP3.d;have fd3:=hP3.fd;have eo3:=(hb3.cell (p:=⟨B+4,0,none⟩) (by simp)).trans eo4;have fo3:=(hb3.frozen (p:=⟨B+4,0,none⟩) (by simp)).trans fo4)
      refine bodyPost_end (v:=.tuple #[]) (by simp[results,Tryz.results48,go_sem]) rfl ⟨rfl,_,by rw[HW.out];exact hP3.done true,(((hS4.mono (by omega)).trans (hb3.mono (by omega))).setCell (by simp) _).setCell (by simp) _⟩
     ·have h3':(X.lz.length:Int)<(3:Int):=by omega
      have HW:Hid (xax X ⟨c,fd⟩=⟨X.site,X.ez,false,X.lz++[⟨c,fd⟩]⟩):=by show _=_;rw[xpM hH,if_neg h3]
      have HM:Hid (X.many=false):=by
       rw[Bool.or_eq_false_iff] at hH;exact hH.1
      clear hH;go_wp2;have hSl:∀ w',Below wr.heap.size wr w'->w'.cell? ⟨XB,5,none⟩=some (.slice al X.lz.length cl)/\w'.cell? ⟨B+2,0,none⟩=some (.int .i64 c)/\w'.cell? ⟨B+3,0,none⟩=some (.int .i64 fd)/\Below wr.heap.size wr w':=fun w' hb=>⟨qzA hb c5,qzA hb hPq.c,qzA hb hPq.f,hb⟩
      have hS0:=hSl _ (qzL _ wr).drew;refine xfz (S:=fun w'=>w'.cell? ⟨XB,5,none⟩=some (.slice al X.lz.length cl)/\w'.cell? ⟨B+2,0,none⟩=some (.int .i64 c)/\w'.cell? ⟨B+3,0,none⟩=some (.int .i64 fd)/\Below wr.heap.size wr w') 10 (by kernel_rfl) ?_
      refine xbs (i:=1) (oi:=⟨some 48,.fieldAddr 70 (.tmp 7) 3,0,_,_,none⟩) (v:=.pointer (some ⟨XB,5,none⟩)) (by kernel_rfl) rfl rfl (by kernel_rfl) (by kernel_rfl) (by kernel_rfl) (fun _ _ _ h=>h) (Or.inl ⟨by rfl,?_⟩) hS0 ?_
      ·rintro w⟨q5,qc,qf,-⟩;go_simp
      try simp only[Act.put,qzF,qzG,qzH]
      refine xbs (i:=2) (oi:=⟨some 49,.load 68 (.tmp 48),68,_,_,none⟩) (v:=.slice al X.lz.length cl) (by kernel_rfl) rfl rfl (by kernel_rfl) (by kernel_rfl) (by kernel_rfl) (fun _ _ _ h=>h) (Or.inl ⟨by rfl,?_⟩) hS0 ?_
      ·rintro w⟨q5,qc,qf,-⟩;go_simp
      try simp only[Act.put,qzF,qzG,qzH]
      refine xbs (i:=4) (oi:=⟨some 51,.load 3 (.tmp 3),3,_,_,none⟩) (v:=.int .i64 c) (by kernel_rfl) rfl rfl (by kernel_rfl) (by kernel_rfl) (by kernel_rfl) (fun _ _ _ h=>h) (Or.inl ⟨by rfl,?_⟩) hS0 ?_
      ·rintro w⟨q5,qc,qf,-⟩;go_simp
      try simp only[Act.put,qzF,qzG,qzH]
      refine xbs (i:=5) (oi:=⟨some 52,.load 3 (.tmp 4),3,_,_,none⟩) (v:=.int .i64 fd) (by kernel_rfl) rfl rfl (by kernel_rfl) (by kernel_rfl) (by kernel_rfl) (fun _ _ _ h=>h) (Or.inl ⟨by rfl,?_⟩) hS0 ?_
      ·rintro w⟨q5,qc,qf,-⟩;go_simp
      try simp only[Act.put,qzF,qzG,qzH]
      refine xbs (i:=6) (oi:=⟨some 53,.build 72 #[(0,.tmp 51),(1,.tmp 52)],72,_,_,none⟩) (v:=.agg #[.int .i64 c,.int .i64 fd]) (by kernel_rfl) rfl rfl (by kernel_rfl) (by kernel_rfl) (by kernel_rfl) (fun _ _ _ h=>h) (Or.inl ⟨by rfl,?_⟩) hS0 ?_
      ·rintro w⟨q5,qc,qf,-⟩;go_simp
      try simp only[Act.put,qzF,qzG,qzH]
      refine xcC (rs:=[0,7]) (by kernel_rfl) (by simp) ?_
      intro i hi;simp only[List.mem_cons,List.not_mem_nil,or_false] at hi
      rcases hi with rfl | rfl
      ·refine xmj (o:=⟨some 47,.buildSlice 68 0 #[],68,_,_,none⟩) rfl (fun K hK=>?_)
       go_simp;refine hK _ _ (fun _=>hSl _ ((xaj _ _).drew)) ?_
       clear hK K
       try simp only[Act.put,qzF,qzG,qzH]
       refine xcC (rs:=[3,7]) (by kernel_rfl) (by simp) ?_
       intro i hi;simp only[List.mem_cons,List.not_mem_nil,or_false] at hi
       rcases hi with rfl | rfl
       ·refine xmj (o:=⟨some 50,.call ⟨.builtin .append,#[.tmp 47,.tmp 49],#[68,68]⟩,68,_,_,none⟩) rfl (fun K hK=>?_)
        refine xpo (by rfl) (.tmp 47) (.tmp 49) rfl wr.heap.size (wr.heap.size) rfl (by (try rw[xpz]);first | exact qzJ _ _ | exact xp0 _ _ _ (by simp) | exact ((xaj _ _).block _ (by simp)).trans (qzJ _ _)) (by omega) al cl X.lz rfl (hlq.later xbq ((xaj _ _).drew)) (by omega) ?_
        intro g4 cap4 w4 hout4 hb4;have hbB:=xah ((xaj _ _).drew) hb4;refine hK _ _ (fun _=>hSl _ hbB) ?_
        clear hK K
        try simp only[Act.put,qzF,qzG,qzH]
        refine xcC (rs:=[7]) (by kernel_rfl) (by simp) ?_
        intro i hi;simp only[List.mem_cons,List.not_mem_nil,or_false] at hi;subst hi;refine xmj (o:=⟨some 54,.buildSlice 68 1 #[(0,.tmp 53)],68,_,_,none⟩) rfl (fun K hK=>?_)
        go_simp;refine hK _ _ (fun _=>hSl _ (hbB.alloc hbB.size _)) ?_
        clear hK K
        try simp only[Act.put,qzF,qzG,qzH]
        refine xcC (rs:=[8]) (by kernel_rfl) (by simp) ?_
        intro i hi;simp only[List.mem_cons,List.not_mem_nil,or_false] at hi;subst hi;refine xmj (o:=⟨some 55,.call ⟨.builtin .append,#[.tmp 50,.tmp 54],#[68,68]⟩,68,_,_,none⟩) rfl (fun K hK=>?_)
        refine xpp (by rfl) (.tmp 50) (.tmp 54) rfl wr.heap.size _ X.lz rfl (hout4.later xbq (xaj _ _)) (hbB.alloc hbB.size (.cells #[.int .i64 c,.int .i64 fd] 72)).size (w4.heap.size) ⟨c,fd⟩ rfl (qzJ _ _) (by omega) ?_
        intro g8 cap8 w8 hout8 hb8;have hbC:=(hbB.alloc hbB.size (.cells #[.int .i64 c,.int .i64 fd] 72)).trans hb8;refine hK _ _ (fun _=>hSl _ hbC) ?_
        clear hK K
        try simp only[Act.put,qzF,qzG,qzH]
        refine xbs (i:=9) (oi:=⟨some 56,.fieldAddr 70 (.tmp 7) 3,0,_,_,none⟩) (v:=.pointer (some ⟨XB,5,none⟩)) (by kernel_rfl) rfl rfl (by kernel_rfl) (by kernel_rfl) (by kernel_rfl) (fun _ _ _ h=>h) (Or.inl ⟨by rfl,?_⟩) (hSl _ hbC) ?_
        ·rintro w⟨q5,qc,qf,-⟩;go_simp
        try simp only[Act.put,qzF,qzG,qzH]
        refine xcC (rs:=[10]) (by kernel_rfl) (by simp) ?_
        intro i hi;simp only[List.mem_cons,List.not_mem_nil,or_false] at hi;subst hi;refine xmj (o:=⟨none,.store 68 (.tmp 56) (.tmp 55),0,_,_,none⟩) rfl (fun K hK=>?_)
        have c58:=qzA hbC c5;have f58:=(hbC.frozen (p:=⟨XB,5,none⟩) (by simp;omega)).trans (hfq 5)
        go_simp;refine hK _ _ (fun h=>absurd rfl h) ?_
        clear hK K;refine xhV (by kernel_rfl) ?_ _
        try simp only[Act.put,qzF,qzG,qzH]
        have hS4:=(HQ.out _ (xah hbq hbC)).setCell (p:=⟨XB,5,none⟩) (qzC _) (.slice (some ⟨g8,0,none⟩) (X.lz.length+1) cap8);have hP4:=HP0.out _ hS4;have hz4:=hP4.sz;have hz8:=hbC.size;have eo4:=hP4.o;have fo4:=hP4.fo;have ob4:=hP4.out.block;have hl8:=hout8.lz.keep xbq (Keeps.of_setCell (a:=⟨XB,5,none⟩) (by intro h;have:=h.1;simp at this;omega) (.slice (some ⟨g8,0,none⟩) (X.lz.length+1) cap8)) (fun _ h=>h)
        obtain⟨x0,x1,x2,x3,x4,x5⟩:=hboxq.later hbC;have ed8:=qzA hbC ed;have fd8:=(hbC.frozen (p:=⟨B+5,0,none⟩) (by simp;omega)).trans fd'
        rw[HM.out] at x4;clear c0 c1 c2 c3 c4 c5 eo fo ed fd' hS0 hSl hlq hboxq hPq
        go_wp2_with (at_builtin;refine xpl xbw rfl (.tmp 57) (.tmp 59) 31 rfl 70 _ 72 Tryz.underlying31 xmQ rfl (B+6) _ pre rfl (hP4.out.later xbw (xaj _ _)) _ 70 [.int .i64 X.site.cls,.string X.site.name,.int .i64 X.site.at',.int .i64 X.ez,.bool false,.slice (some ⟨g8,0,none⟩) (X.lz.length+1) cap8] rfl (xp0 _ _ _ (by simp)) rfl ⟨X.site,X.ez,false,X.lz++[⟨c,fd⟩]⟩ (R':=fun b=>wr.heap.size<=b/\b<w8.heap.size) ⟨rfl,rfl,rfl,rfl,rfl,_,rfl,hl8.later xbq (xaj _ _)⟩ (fun b hb=>⟨⟨hz _ (by omega),Or.inr (by omega)⟩,by simp;omega,fun e=>by have:=(hob b e.symm).2;omega⟩) (by simp;omega) hb1 ⟨hb2,by decide⟩ ?_;intro g9 cap9 w9 hout9 hbel9;have hb9:=((xaj _ _).mono hz4).trans hbel9;have hP9:=hP4.next hb9 hout9;have ed9:=hP9.d;have fd9:=hP9.fd;have eo9:=(hb9.cell (p:=⟨B+4,0,none⟩) (by simp)).trans eo4;have fo9:=(hb9.frozen (p:=⟨B+4,0,none⟩) (by simp)).trans fo4)
        refine bodyPost_end (v:=.tuple #[]) (by simp[results,Tryz.results48,go_sem]) rfl ⟨rfl,_,by rw[HW.out];exact hP9.done true,(((hS4.mono (by omega)).trans (hb9.mono (by omega))).setCell (by simp) _).setCell (by simp) _⟩
       ·refine xmj (o:=⟨some 54,.buildSlice 68 1 #[(0,.tmp 53)],68,_,_,none⟩) rfl (fun K hK=>?_)
        go_simp;refine hK _ _ (fun _=>hSl _ ((xca _ _ _).drew)) ?_
        clear hK K
        try simp only[Act.put,qzF,qzG,qzH]
        refine xcC (rs:=[3]) (by kernel_rfl) (by simp) ?_
        intro i hi;simp only[List.mem_cons,List.not_mem_nil,or_false] at hi;subst hi;refine xmj (o:=⟨some 50,.call ⟨.builtin .append,#[.tmp 47,.tmp 49],#[68,68]⟩,68,_,_,none⟩) rfl (fun K hK=>?_)
        refine xpo (by rfl) (.tmp 47) (.tmp 49) rfl wr.heap.size (wr.heap.size) rfl (by (try rw[xpz]);first | exact qzJ _ _ | exact xp0 _ _ _ (by simp) | exact ((xaj _ _).block _ (by simp)).trans (qzJ _ _)) (by omega) al cl X.lz rfl (hlq.later xbq ((xca _ _ _).drew)) (by omega) ?_
        intro g4 cap4 w4 hout4 hb4;have hbB:=xah ((xca _ _ _).drew) hb4;refine hK _ _ (fun _=>hSl _ hbB) ?_
        clear hK K
        try simp only[Act.put,qzF,qzG,qzH]
        refine xcC (rs:=[8]) (by kernel_rfl) (by simp) ?_
        intro i hi;simp only[List.mem_cons,List.not_mem_nil,or_false] at hi;subst hi;refine xmj (o:=⟨some 55,.call ⟨.builtin .append,#[.tmp 50,.tmp 54],#[68,68]⟩,68,_,_,none⟩) rfl (fun K hK=>?_)
        refine xpp (by rfl) (.tmp 50) (.tmp 54) rfl wr.heap.size _ X.lz rfl (hout4) (hbB).size (wr.heap.size+1) ⟨c,fd⟩ rfl (by rw[hb4.block _ (by simp)];(try rw[xpz]);exact xp0 _ _ _ (by simp)) (by omega) ?_
        intro g8 cap8 w8 hout8 hb8;have hbC:=(hbB).trans hb8;refine hK _ _ (fun _=>hSl _ hbC) ?_
        clear hK K
        try simp only[Act.put,qzF,qzG,qzH]
        refine xbs (i:=9) (oi:=⟨some 56,.fieldAddr 70 (.tmp 7) 3,0,_,_,none⟩) (v:=.pointer (some ⟨XB,5,none⟩)) (by kernel_rfl) rfl rfl (by kernel_rfl) (by kernel_rfl) (by kernel_rfl) (fun _ _ _ h=>h) (Or.inl ⟨by rfl,?_⟩) (hSl _ hbC) ?_
        ·rintro w⟨q5,qc,qf,-⟩;go_simp
        try simp only[Act.put,qzF,qzG,qzH]
        refine xcC (rs:=[10]) (by kernel_rfl) (by simp) ?_
        intro i hi;simp only[List.mem_cons,List.not_mem_nil,or_false] at hi;subst hi;refine xmj (o:=⟨none,.store 68 (.tmp 56) (.tmp 55),0,_,_,none⟩) rfl (fun K hK=>?_)
        have c58:=qzA hbC c5;have f58:=(hbC.frozen (p:=⟨XB,5,none⟩) (by simp;omega)).trans (hfq 5)
        go_simp;refine hK _ _ (fun h=>absurd rfl h) ?_
        clear hK K;refine xhV (by kernel_rfl) ?_ _
        try simp only[Act.put,qzF,qzG,qzH]
        have hS4:=(HQ.out _ (xah hbq hbC)).setCell (p:=⟨XB,5,none⟩) (qzC _) (.slice (some ⟨g8,0,none⟩) (X.lz.length+1) cap8);have hP4:=HP0.out _ hS4;have hz4:=hP4.sz;have hz8:=hbC.size;have eo4:=hP4.o;have fo4:=hP4.fo;have ob4:=hP4.out.block;have hl8:=hout8.lz.keep xbq (Keeps.of_setCell (a:=⟨XB,5,none⟩) (by intro h;have:=h.1;simp at this;omega) (.slice (some ⟨g8,0,none⟩) (X.lz.length+1) cap8)) (fun _ h=>h)
        obtain⟨x0,x1,x2,x3,x4,x5⟩:=hboxq.later hbC;have ed8:=qzA hbC ed;have fd8:=(hbC.frozen (p:=⟨B+5,0,none⟩) (by simp;omega)).trans fd'
        rw[HM.out] at x4;clear c0 c1 c2 c3 c4 c5 eo fo ed fd' hS0 hSl hlq hboxq hPq
        go_wp2_with (at_builtin;refine xpl xbw rfl (.tmp 57) (.tmp 59) 31 rfl 70 _ 72 Tryz.underlying31 xmQ rfl (B+6) _ pre rfl (hP4.out.later xbw (xaj _ _)) _ 70 [.int .i64 X.site.cls,.string X.site.name,.int .i64 X.site.at',.int .i64 X.ez,.bool false,.slice (some ⟨g8,0,none⟩) (X.lz.length+1) cap8] rfl (xp0 _ _ _ (by simp)) rfl ⟨X.site,X.ez,false,X.lz++[⟨c,fd⟩]⟩ (R':=fun b=>wr.heap.size<=b/\b<w8.heap.size) ⟨rfl,rfl,rfl,rfl,rfl,_,rfl,hl8.later xbq (xaj _ _)⟩ (fun b hb=>⟨⟨hz _ (by omega),Or.inr (by omega)⟩,by simp;omega,fun e=>by have:=(hob b e.symm).2;omega⟩) (by simp;omega) hb1 ⟨hb2,by decide⟩ ?_;intro g9 cap9 w9 hout9 hbel9;have hb9:=((xaj _ _).mono hz4).trans hbel9;have hP9:=hP4.next hb9 hout9;have ed9:=hP9.d;have fd9:=hP9.fd;have eo9:=(hb9.cell (p:=⟨B+4,0,none⟩) (by simp)).trans eo4;have fo9:=(hb9.frozen (p:=⟨B+4,0,none⟩) (by simp)).trans fo4)
        refine bodyPost_end (v:=.tuple #[]) (by simp[results,Tryz.results48,go_sem]) rfl ⟨rfl,_,by rw[HW.out];exact hP9.done true,(((hS4.mono (by omega)).trans (hb9.mono (by omega))).setCell (by simp) _).setCell (by simp) _⟩
      ·refine xmj (o:=⟨some 54,.buildSlice 68 1 #[(0,.tmp 53)],68,_,_,none⟩) rfl (fun K hK=>?_)
       go_simp;refine hK _ _ (fun _=>hSl _ ((xaj _ _).drew)) ?_
       clear hK K
       try simp only[Act.put,qzF,qzG,qzH]
       refine xcC (rs:=[0]) (by kernel_rfl) (by simp) ?_
       intro i hi;simp only[List.mem_cons,List.not_mem_nil,or_false] at hi;subst hi;refine xmj (o:=⟨some 47,.buildSlice 68 0 #[],68,_,_,none⟩) rfl (fun K hK=>?_)
       go_simp;refine hK _ _ (fun _=>hSl _ ((xca _ _ _).drew)) ?_
       clear hK K
       try simp only[Act.put,qzF,qzG,qzH]
       refine xcC (rs:=[3]) (by kernel_rfl) (by simp) ?_
       intro i hi;simp only[List.mem_cons,List.not_mem_nil,or_false] at hi;subst hi;refine xmj (o:=⟨some 50,.call ⟨.builtin .append,#[.tmp 47,.tmp 49],#[68,68]⟩,68,_,_,none⟩) rfl (fun K hK=>?_)
       refine xpo (by rfl) (.tmp 47) (.tmp 49) rfl wr.heap.size (wr.heap.size+1) rfl (by (try rw[xpz]);first | exact qzJ _ _ | exact xp0 _ _ _ (by simp) | exact ((xaj _ _).block _ (by simp)).trans (qzJ _ _)) (by omega) al cl X.lz rfl (hlq.later xbq ((xca _ _ _).drew)) (by omega) ?_
       intro g4 cap4 w4 hout4 hb4;have hbB:=xah ((xca _ _ _).drew) hb4;refine hK _ _ (fun _=>hSl _ hbB) ?_
       clear hK K
       try simp only[Act.put,qzF,qzG,qzH]
       refine xcC (rs:=[8]) (by kernel_rfl) (by simp) ?_
       intro i hi;simp only[List.mem_cons,List.not_mem_nil,or_false] at hi;subst hi;refine xmj (o:=⟨some 55,.call ⟨.builtin .append,#[.tmp 50,.tmp 54],#[68,68]⟩,68,_,_,none⟩) rfl (fun K hK=>?_)
       refine xpp (by rfl) (.tmp 50) (.tmp 54) rfl wr.heap.size _ X.lz rfl (hout4) (hbB).size (wr.heap.size) ⟨c,fd⟩ rfl (by rw[hb4.block _ (by simp;omega)];(try rw[xpz]);exact ((xaj _ _).block _ (by simp)).trans (qzJ _ _)) (by omega) ?_
       intro g8 cap8 w8 hout8 hb8;have hbC:=(hbB).trans hb8;refine hK _ _ (fun _=>hSl _ hbC) ?_
       clear hK K
       try simp only[Act.put,qzF,qzG,qzH]
       refine xbs (i:=9) (oi:=⟨some 56,.fieldAddr 70 (.tmp 7) 3,0,_,_,none⟩) (v:=.pointer (some ⟨XB,5,none⟩)) (by kernel_rfl) rfl rfl (by kernel_rfl) (by kernel_rfl) (by kernel_rfl) (fun _ _ _ h=>h) (Or.inl ⟨by rfl,?_⟩) (hSl _ hbC) ?_
       ·rintro w⟨q5,qc,qf,-⟩;go_simp
       try simp only[Act.put,qzF,qzG,qzH]
       refine xcC (rs:=[10]) (by kernel_rfl) (by simp) ?_
       intro i hi;simp only[List.mem_cons,List.not_mem_nil,or_false] at hi;subst hi;refine xmj (o:=⟨none,.store 68 (.tmp 56) (.tmp 55),0,_,_,none⟩) rfl (fun K hK=>?_)
       have c58:=qzA hbC c5;have f58:=(hbC.frozen (p:=⟨XB,5,none⟩) (by simp;omega)).trans (hfq 5)
       go_simp;refine hK _ _ (fun h=>absurd rfl h) ?_
       clear hK K;refine xhV (by kernel_rfl) ?_ _
       try simp only[Act.put,qzF,qzG,qzH]
       have hS4:=(HQ.out _ (xah hbq hbC)).setCell (p:=⟨XB,5,none⟩) (qzC _) (.slice (some ⟨g8,0,none⟩) (X.lz.length+1) cap8);have hP4:=HP0.out _ hS4;have hz4:=hP4.sz;have hz8:=hbC.size;have eo4:=hP4.o;have fo4:=hP4.fo;have ob4:=hP4.out.block;have hl8:=hout8.lz.keep xbq (Keeps.of_setCell (a:=⟨XB,5,none⟩) (by intro h;have:=h.1;simp at this;omega) (.slice (some ⟨g8,0,none⟩) (X.lz.length+1) cap8)) (fun _ h=>h)
       obtain⟨x0,x1,x2,x3,x4,x5⟩:=hboxq.later hbC;have ed8:=qzA hbC ed;have fd8:=(hbC.frozen (p:=⟨B+5,0,none⟩) (by simp;omega)).trans fd'
       rw[HM.out] at x4;clear c0 c1 c2 c3 c4 c5 eo fo ed fd' hS0 hSl hlq hboxq hPq
       go_wp2_with (at_builtin;refine xpl xbw rfl (.tmp 57) (.tmp 59) 31 rfl 70 _ 72 Tryz.underlying31 xmQ rfl (B+6) _ pre rfl (hP4.out.later xbw (xaj _ _)) _ 70 [.int .i64 X.site.cls,.string X.site.name,.int .i64 X.site.at',.int .i64 X.ez,.bool false,.slice (some ⟨g8,0,none⟩) (X.lz.length+1) cap8] rfl (xp0 _ _ _ (by simp)) rfl ⟨X.site,X.ez,false,X.lz++[⟨c,fd⟩]⟩ (R':=fun b=>wr.heap.size<=b/\b<w8.heap.size) ⟨rfl,rfl,rfl,rfl,rfl,_,rfl,hl8.later xbq (xaj _ _)⟩ (fun b hb=>⟨⟨hz _ (by omega),Or.inr (by omega)⟩,by simp;omega,fun e=>by have:=(hob b e.symm).2;omega⟩) (by simp;omega) hb1 ⟨hb2,by decide⟩ ?_;intro g9 cap9 w9 hout9 hbel9;have hb9:=((xaj _ _).mono hz4).trans hbel9;have hP9:=hP4.next hb9 hout9;have ed9:=hP9.d;have fd9:=hP9.fd;have eo9:=(hb9.cell (p:=⟨B+4,0,none⟩) (by simp)).trans eo4;have fo9:=(hb9.frozen (p:=⟨B+4,0,none⟩) (by simp)).trans fo4)
       refine bodyPost_end (v:=.tuple #[]) (by simp[results,Tryz.results48,go_sem]) rfl ⟨rfl,_,by rw[HW.out];exact hP9.done true,(((hS4.mono (by omega)).trans (hb9.mono (by omega))).setCell (by simp) _).setCell (by simp) _⟩
def xps (s:QS)(ep:Int)(y:QL)(p:List QE × Bool)(x:QE):List QE × Bool:=if eqS x.site s=true/\p.2=false then (p.1++[xax (xbS x s ep) y],true) else (p.1++[x],p.2)
def xqg (s:QS)(ep:Int)(y:QL)(xs:List QE):List QE × Bool:=xs.foldl (xps s ep y) ([],false)
def xro (s:QS)(ep:Int)(y:QL)(p:List QE × Bool):List QE:=if p.2 then p.1 else p.1++[xax ⟨s,ep,false,[]⟩ y]
theorem xqD (s:QS)(ep:Int)(y:QL)(xs:List QE)(x:QE):xqg s ep y (xs++[x])=xps s ep y (xqg s ep y xs) x:=by simp[xqg]
theorem xpR (s:QS)(ep:Int)(y:QL):∀ (xs pre:List QE),xs.foldl (xps s ep y) (pre,true)=(pre++xs,true)
 | [],pre=>by simp
 | x :: r,pre=>by
  rw[List.foldl_cons];have:xps s ep y (pre,true) x=(pre++[x],true):=by simp[xps]
  rw[this,xpR s ep y r]
  simp
theorem xpO (s:QS)(ep:Int)(y:QL):∀ (xs pre:List QE),xro s ep y (xs.foldl (xps s ep y) (pre,false))=pre++xcX xs s ep y
 | [],pre=>by simp[xro,xcX]
 | x :: r,pre=>by
  rw[List.foldl_cons]
  by_cases hx:eqS x.site s=true
  ·have:xps s ep y (pre,false) x=(pre++[xax (xbS x s ep) y],true):=by simp[xps,hx]
   rw[this,xpR]
   simp[xro,xcX,hx]
  ·have:xps s ep y (pre,false) x=(pre++[x],false):=by simp[xps,hx]
   rw[this,xpO s ep y r]
   simp[xcX,hx]
theorem xqX (s:QS)(ep:Int)(y:QL)(xs:List QE):xro s ep y (xqg s ep y xs)=xcX xs s ep y:=by
 have:=xpO s ep y xs []
 simpa [xqg] using this
theorem xqR (s:QS)(ep:Int)(y:QL)(xs:List QE):(xqg s ep y xs).1.length=xs.length:=by
 have:∀ (xs:List QE) (p:List QE × Bool),(xs.foldl (xps s ep y) p).1.length=p.1.length+xs.length:=by
  intro xs
  induction xs with
  | nil=>simp
  | cons x r ih=>
   intro p;rw[List.foldl_cons,ih];unfold xps
   split<;>simp<;>omega
 have:=this xs ([],false)
 simpa [xqg] using this
theorem xqt (s:QS)(ep:Int):xbS ⟨s,ep,false,[]⟩ s ep=⟨s,ep,false,[]⟩:=by simp[xbS]
theorem xqW (Z:Nat->Prop)(w:World)(s:QS)(ep c fd:Int):PutR Z w.heap.size s ep c fd (.slice none 0 0) [] false ((((((w.alloc (.cells #[.int .i64 s.cls,.string s.name,.int .i64 s.at'] 67)).alloc (.cells #[.int .i64 ep] 3)).alloc (.cells #[.int .i64 c] 3)).alloc (.cells #[.int .i64 fd] 3)).alloc (.cells #[.slice none 0 0] 31)).alloc (.cells #[.bool false] 4)):=by
 refine⟨?_,?_,?_,?_,?_,?_,?_,?_,OutN.nil,by simp⟩
 ·exact ((xeS w s 67).later (xfv _ _ _ _)).later (xca _ _ _)
 ·exact qzA (xca _ _ _) (qzA (xca _ _ _) (by rw[xaa _ _ _ _ (by simp)];rfl))
 ·exact qzA (xfv _ _ _ _) (by rw[xaa _ _ _ _ (by simp)];rfl)
 ·exact qzA (xca _ _ _) (by rw[xaa _ _ _ _ (by simp)];rfl)
 ·exact qzA (xaj _ _) (by rw[xaa _ _ _ _ (by simp)];rfl)
 ·rw[xaa _ _ _ _ (by simp)];rfl
 ·exact ((xaj _ _).frozen (p:=⟨w.heap.size+4,0,none⟩) (by simp)).trans (xeu _ _ _ _ _ (by simp))
 ·exact xeu _ _ _ _ _ (by simp)
theorem xqT (Z:Nat->Prop)(xs:List QE)(v:Value)(s:QS)(ep c fd:Int)(w:World)(hz:∀ b,w.heap.size<=b->Z b)(hh:xbk Z w v xs)(hby:(xs.length+1)*72<=190000000000000) :
  Calls Tryz.prog 28 #[v,SV s,.int .i64 ep,.int .i64 c,.int .i64 fd] w fun e w'=>∃ a k,e=.returned (.slice a (xcX xs s ep ⟨c,fd⟩).length k)/\xbk Z w' (.slice a (xcX xs s ep ⟨c,fd⟩).length k) (xcX xs s ep ⟨c,fd⟩)/\Below w.heap.size w w':=by
 have hm:=hmf;have ho:=xp7 hh;obtain⟨ad,cap,rfl,hl,hcap,-,-⟩:=id hh;unfold maxLen at hcap;have hP0:=xqW Z w s ep c fd;have hb0:Below w.heap.size w ((((((w.alloc (.cells #[.int .i64 s.cls,.string s.name,.int .i64 s.at'] 67)).alloc (.cells #[.int .i64 ep] 3)).alloc (.cells #[.int .i64 c] 3)).alloc (.cells #[.int .i64 fd] 3)).alloc (.cells #[.slice none 0 0] 31)).alloc (.cells #[.bool false] 4)):=((((xca _ _ _).alloc (by simp;omega) _).alloc (by simp;omega) _).alloc (by simp;omega) _).alloc (by simp;omega) _
 clear hh;go_enter Tryz.func28,Tryz.ntmps28;go_wp2;generalize ((((((w.alloc (.cells #[.int .i64 s.cls,.string s.name,.int .i64 s.at'] 67)).alloc (.cells #[.int .i64 ep] 3)).alloc (.cells #[.int .i64 c] 3)).alloc (.cells #[.int .i64 fd] 3)).alloc (.cells #[.slice none 0 0] 31)).alloc (.cells #[.bool false] 4))=W0 at *;simp only[Nat.add_assoc,Nat.reduceAdd];clear hm
 go_loopg [19] xs.length (fun g i wr=>∃ (j:Nat) (ov:Value),j+g=xs.length/\i=.int .i64 j/\Below w.heap.size w wr/\PutR Z w.heap.size s ep c fd ov (xqg s ep ⟨c,fd⟩ (xs.take j)).1 (xqg s ep ⟨c,fd⟩ (xs.take j)).2 wr)
 case atStart=>exact⟨0,_,by omega,rfl,hb0,hP0⟩
 case round=>
  obtain⟨j,ov,hj,rfl,hbel,hP⟩:=hrel;have hlen:(xqg s ep ⟨c,fd⟩ (xs.take j)).1.length=j:=by rw[xqR,List.length_take];omega
  clear hP0 hb0;have HO:Hid (xbk (fun b=>Z b/\b<w.heap.size) wr (.slice ad xs.length cap) xs):=ho.later xbw hbel
  have hzr:=hP.sz
  by_cases hlt:j<xs.length
  ·obtain⟨ad',cap',e',-,-,-,hrow⟩:=HO.out;simp only[Value.slice.injEq] at e';obtain⟨rfl,-,-⟩:=e';obtain⟨b,o,rfl,-,q0,q1,q2,q3,q4,lv,q5,ql⟩:=hrow j xs[j] (by simp[hlt])
   have hxj:Hid (xs[j]?=some xs[j]):=by show _=_;simp[hlt]
   generalize xs[j]=x at *;have HC:Hid (xqg s ep ⟨c,fd⟩ (xs.take (j+1))=xps s ep ⟨c,fd⟩ (xqg s ep ⟨c,fd⟩ (xs.take j)) x):=by show _=_;rw[xpB hxj.out,xqD]
   simp only[Nat.add_zero] at q0;obtain⟨ad2,cap2,rfl,hl2,hcap2,-,-⟩:=id ql;unfold maxLen at hcap2;generalize hcr:xqg s ep ⟨c,fd⟩ (xs.take j)=pd at *;obtain⟨pre,dn⟩:=pd;simp only at hP hlen ⊢;clear hcr hrow;obtain⟨s0,s1,s2⟩:=id hP.site;have s0':=fun y=>qzA (xaj wr y) s0
   have s1':=fun y=>qzA (xaj wr y) s1
   have s2':=fun y=>qzA (xaj wr y) s2
   have ed':=fun y=>qzA (xaj wr y) hP.d
   have eo':=fun y=>qzA (xaj wr y) hP.o
   have he:=fun w=>xrt x.site s w
   have hj1:(j:Int)<(xs.length:Int):=by omega
   have hj0:(0:Int)<=(j:Int):=by omega
   have hbx:=xaj wr (Obj.cells #[Value.int .i64 x.site.cls,Value.string x.site.name,Value.int .i64 x.site.at',Value.int .i64 x.ez,Value.bool x.many,Value.slice ad2 x.lz.length cap2] 70);have hPx:=hP.later hbx;have hlx:=ql.later xbq hbx;have hob:=hP.out.block;clear s0 s1 s2
   by_cases hcase:eqS x.site s=true/\dn=false
   ·obtain⟨h1,rfl⟩:=hcase;have HP:Hid (xps s ep ⟨c,fd⟩ (pre,false) x=(pre++[xax (xbS x s ep) ⟨c,fd⟩],true)):=by show _=_;unfold xps;rw[if_pos ⟨h1,rfl⟩]
    rw[h1] at he;clear h1;go_wp2_with fail;refine (xqq Z w.heap.size hz s ep c fd ov pre false x _ _ hPx hlx (by unfold maxLen;omega) (by rw[hlen];omega)).mono ?_
    rintro e w2 ⟨rfl,ov2,hP2,hb2⟩;go_wp2
    go_roundg (gk-1)
    case measure=>omega
    case rel=>exact⟨j+1,ov2,by omega,by go_num,hbel.trans ((hbx.mono hbel.size).trans (hb2.mono (by omega))),by rw[HC.out,HP.out];exact hP2⟩
   ·have HP:Hid (xps s ep ⟨c,fd⟩ (pre,dn) x=(pre++[x],dn)):=by show _=_;unfold xps;rw[if_neg hcase]
    have hfo':=hPx.fo
    cases h1:eqS x.site s with
    | false=>
     rw[h1] at he;clear hcase
     go_wp2_with (at_builtin;refine xpl xbw rfl (.tmp 34) (.tmp 36) 31 rfl 70 _ 72 Tryz.underlying31 xmQ rfl (w.heap.size+6) _ pre rfl (hPx.out.later xbw (xaj _ _)) _ 70 [.int .i64 x.site.cls,.string x.site.name,.int .i64 x.site.at',.int .i64 x.ez,.bool x.many,.slice ad2 x.lz.length cap2] rfl (xp0 _ _ _ (by simp)) rfl x (R':=fun b=>Z b/\b<w.heap.size) ⟨rfl,rfl,rfl,rfl,rfl,_,rfl,hlx.later xbq (xaj _ _)⟩ (fun b hb=>⟨⟨hb.1,Or.inl hb.2⟩,by simp;omega,fun e=>by have:=(hob b e.symm).1;omega⟩) (by simp;omega) (by unfold maxLen;omega) (by rw[hlen];omega) ?_;intro g3 cap3 w3 hout3 hbel3;have hb3:=((xaj _ _).mono hPx.sz).trans hbel3;have hP3:=hPx.next hb3 hout3;have eo3:=(hb3.cell (p:=⟨w.heap.size+4,0,none⟩) (by simp)).trans hPx.o;have fo3:=(hb3.frozen (p:=⟨w.heap.size+4,0,none⟩) (by simp)).trans hPx.fo)
     go_roundg (gk-1)
     case measure=>omega
     case rel=>exact⟨j+1,_,by omega,by go_num,((hbel.trans (hbx.mono hbel.size)).trans (hb3.mono (by omega))).setCell (by simp) _,by rw[HC.out,HP.out];simpa [hlen] using hP3⟩
    | true=>
     obtain rfl:dn=true:=by
      cases dn with
      | true=>rfl
      | false=>exact absurd ⟨h1,rfl⟩ hcase
     rw[h1] at he;clear hcase
     go_wp2_with (at_builtin;refine xpl xbw rfl (.tmp 34) (.tmp 36) 31 rfl 70 _ 72 Tryz.underlying31 xmQ rfl (w.heap.size+6) _ pre rfl (hPx.out.later xbw (xaj _ _)) _ 70 [.int .i64 x.site.cls,.string x.site.name,.int .i64 x.site.at',.int .i64 x.ez,.bool x.many,.slice ad2 x.lz.length cap2] rfl (xp0 _ _ _ (by simp)) rfl x (R':=fun b=>Z b/\b<w.heap.size) ⟨rfl,rfl,rfl,rfl,rfl,_,rfl,hlx.later xbq (xaj _ _)⟩ (fun b hb=>⟨⟨hb.1,Or.inl hb.2⟩,by simp;omega,fun e=>by have:=(hob b e.symm).1;omega⟩) (by simp;omega) (by unfold maxLen;omega) (by rw[hlen];omega) ?_;intro g3 cap3 w3 hout3 hbel3;have hb3:=((xaj _ _).mono hPx.sz).trans hbel3;have hP3:=hPx.next hb3 hout3;have eo3:=(hb3.cell (p:=⟨w.heap.size+4,0,none⟩) (by simp)).trans hPx.o;have fo3:=(hb3.frozen (p:=⟨w.heap.size+4,0,none⟩) (by simp)).trans hPx.fo)
     go_roundg (gk-1)
     case measure=>omega
     case rel=>exact⟨j+1,_,by omega,by go_num,((hbel.trans (hbx.mono hbel.size)).trans (hb3.mono (by omega))).setCell (by simp) _,by rw[HC.out,HP.out];simpa [hlen] using hP3⟩
  ·obtain rfl:j=xs.length:=by omega
   have HT:Hid (xs.take xs.length=xs):=List.take_of_length_le (qzC _);rw[HT.out] at hP hlen;have HF:Hid (xcX xs s ep ⟨c,fd⟩=xro s ep ⟨c,fd⟩ (xqg s ep ⟨c,fd⟩ xs)):=(xqX s ep ⟨c,fd⟩ xs).symm;generalize hcr:xqg s ep ⟨c,fd⟩ xs=pd at *;obtain⟨pre,dn⟩:=pd;simp only at hP hlen;clear hcr;have HLEN:Hid (pre.length=xs.length):=hlen;clear hlen;obtain⟨s0,s1,s2⟩:=id hP.site;have ed:=hP.d;have eo:=hP.o;have ee:=hP.e
   cases dn with
   | true=>
    have HE:Hid (xcX xs s ep ⟨c,fd⟩=pre):=by show _=_;rw[HF.out];rfl
    obtain⟨a9,c9,rfl⟩:=hP.out.form;go_wp2
    go_ret
    rw[HE.out]
    exact⟨a9,c9,rfl,hP.out.rowZ xbw (fun _ h=>h.1) (fun b hb=>hz b (by omega)),hbel⟩
   | false=>
    have HE:Hid (xcX xs s ep ⟨c,fd⟩=pre++[xax ⟨s,ep,false,[]⟩ ⟨c,fd⟩]):=by show _=_;rw[HF.out];rfl
    go_wp2_with fail;refine (xqq Z w.heap.size hz s ep c fd ov pre false ⟨s,ep,false,[]⟩ (.slice none 0 0) _ hP ⟨none,0,rfl,by simp,by simp,by simp,fun i x hx=>by simp at hx⟩ (by rw[HLEN.out];unfold maxLen;omega) (by rw[HLEN.out];omega)).mono ?_
    rintro e w2 ⟨rfl,ov2,hP2,hb2⟩;rw[xqt] at hP2;generalize pre++[xax ⟨s,ep,false,[]⟩ ⟨c,fd⟩]=ys at *;obtain⟨a9,c9,rfl⟩:=hP2.out.form;have eo2:=hP2.o;go_wp2
    go_ret
    rw[HE.out]
    exact⟨a9,c9,rfl,hP2.out.rowZ xbw (fun _ h=>h.1) (fun b hb=>hz b (by omega)),hbel.trans (hb2.mono (by omega))⟩
end Go.Proofs.YtapbeiccodnniaaGreat
