/- A part. -/
import Derived.Test.YtapbeiccodnniaaGreatM2
import Derived.BigRegion
import Derived.Deep.RegionLaw
namespace Go.Proofs.YtapbeiccodnniaaGreat
open Go.ChangeShapes Go.WideShapes Go.ChangeAt Go.RowKit
set_option linter.unusedSimpArgs false
set_option linter.unusedVariables false
set_option maxHeartbeats 8000000
set_option maxRecDepth 8000
theorem xm3:∀ j,j<5->∃ (s:ByteArray) (p:Int),(#[Value.string ⟨#[42]⟩,.string ⟨#[43]⟩,.string ⟨#[45]⟩,.string ⟨#[60]⟩,.string ⟨#[61]⟩]:Array Value)[j]?=some (.string s)/\(#[Value.int .i64 3,.int .i64 1,.int .i64 2,.int .i64 4,.int .i64 5]:Array Value)[j]?=some (.int .i64 p)/\xeA.take ((j+1)*5)=xeA.take (j*5)++[.string s,.int .i64 1,.int .i64 0,.int .i64 p,.slice none 0 0]:=by
 intro j hj
 match j,hj with
 | 0,_=>exact⟨_,_,rfl,rfl,rfl⟩
 | 1,_=>exact⟨_,_,rfl,rfl,rfl⟩
 | 2,_=>exact⟨_,_,rfl,rfl,rfl⟩
 | 3,_=>exact⟨_,_,rfl,rfl,rfl⟩
 | 4,_=>exact⟨_,_,rfl,rfl,rfl⟩
structure NewR (w:World)(j:Nat)(a:Option Addr)(k:Nat)(wr:World):Prop where
 bel:Below w.heap.size w wr
 cls:wr.heap[w.heap.size+1]?=some (.cells (xlg (.slice a j k)).toArray 54 (0,0))
 c0:wr.cell? ⟨w.heap.size+1+1,0,none⟩=some (.slice (some ⟨w.heap.size+1,0,none⟩) 4 4)
 c1:wr.cell? ⟨w.heap.size+1+1,1,none⟩=some (.slice none 0 0)
 c2:wr.cell? ⟨w.heap.size+1+1,2,none⟩=some (.int .i64 0)
 str:wr.heap[w.heap.size+1+1+1]?=some (.cells #[Value.string ⟨#[42]⟩,.string ⟨#[43]⟩,.string ⟨#[45]⟩,.string ⟨#[60]⟩,.string ⟨#[61]⟩] 9 (0,0))
 own:wr.ownsRow (w.heap.size+4) 59 5 (.slice a j k) j (xeA.take (j*5))
 size:w.heap.size+4<=wr.heap.size
 res:wr.heap[w.heap.size]?=some (.cells #[.slice none 0 0,.slice none 0 0,.int .i64 0] 25 (0,0))
theorem NewR.grown {w:World}{j:Nat}{a:Option Addr}{k:Nat}{wr w3:World}(h:NewR w j a k wr)(o1 o2:Obj)(hgr:((wr.alloc o1).alloc o2).drew.grownBy w3 (Value.ownBlock (.slice a j k))):Below (w.heap.size+4) wr w3:=by
 have hz:=h.size;refine (((qzL _ wr).alloc hz o1).alloc (by simp;omega) o2).drew.grown hgr (by simp;omega) (fun k' hk'=>?_)
 obtain⟨-,⟨e,-⟩ | ⟨g,c,cur,e,h1,-⟩⟩:=h.own
 ·rw[e] at hk';cases hk'
 ·rw[e] at hk'
  simp[Value.ownBlock] at hk'
  omega
theorem NewR.step {w:World}{j:Nat}{a:Option Addr}{k:Nat}{wr w3:World}{gg cap2:Nat}{cs:List Value}(h:NewR w j a k wr)(hb:Below (w.heap.size+4) wr w3)(hown2:w3.ownsRow (w.heap.size+4) 59 5 (.slice (some ⟨gg,0,none⟩) (j+1) cap2) (j+1) (xeA.take (j*5)++cs))(hcs:xeA.take (j*5)++cs=xeA.take ((j+1)*5)):NewR w (j+1) (some ⟨gg,0,none⟩) cap2 (w3.setCell ⟨w.heap.size+1,15,none⟩ (.slice (some ⟨gg,0,none⟩) (j+1) cap2)):=by
 have hz:=h.size;have hbs:=hb.size;have hcls:w3.heap[w.heap.size+1]?=some (.cells (xlg (.slice a j k)).toArray 54 (0,0)):=by rw[hb.block _ (by omega)];exact h.cls
 refine⟨(h.bel.trans (hb.mono (by omega))).setCell (by show w.heap.size<=w.heap.size+1;omega) _,?_,?_,?_,?_,?_,?_,?_,?_⟩
 ·rw[xad hcls];rfl
 ·rw[qzI _ _ _ _ (by simp),hb.cell (by simp)];exact h.c0
 ·rw[qzI _ _ _ _ (by simp),hb.cell (by simp)];exact h.c1
 ·rw[qzI _ _ _ _ (by simp),hb.cell (by simp)];exact h.c2
 ·rw[xab (by omega),hb.block _ (by omega)];exact h.str
 ·rw[hcs] at hown2
  exact ownsRow_setCell_below hown2 (by show w.heap.size+1<w.heap.size+4;omega) _
 ·rw[xbg];omega
 ·rw[xab (by omega),hb.block _ (by omega)];exact h.res
theorem xiH (w:World):Calls Tryz.prog 14 #[] w fun e w'=>∃ cv hv,e=.returned (WV cv hv 0)/\xai (fun b=>w.heap.size<=b) w' cv xoU.cz/\xaC (fun b=>w.heap.size<=b) w' hv []/\Below w.heap.size w w':=by
 obtain⟨i0,hi,hz0,hz1,hz2⟩:=xa3 xkA;go_enter Tryz.func14,Tryz.ntmps14;go_wp2
 go_loopg [12] 5 (fun g i wr=>∃ (j:Nat) (a:Option Addr) (k:Nat),j+g=5/\i=.int .i64 j/\NewR w j a k wr)
 case atStart=>
  refine⟨0,none,0,rfl,rfl,?_,?_,?_,?_,?_,?_,⟨rfl,Or.inl ⟨rfl,rfl⟩⟩,by simp,?_⟩
  ·exact (xfv _ _ _ _).alloc (by simp;omega) _
  ·rw[(xca _ _ _).block _ (by simp)];exact xba _ _ _ (by simp)
  ·exact qzA (xaj _ _) (by rw[xaa _ _ _ _ (by simp)];rfl)
  ·exact qzA (xaj _ _) (by rw[xaa _ _ _ _ (by simp)];rfl)
  ·exact qzA (xaj _ _) (by rw[xaa _ _ _ _ (by simp)];rfl)
  ·exact xba _ _ _ (by simp)
  ·rw[(xfv _ _ _ _).block _ (by simp)];exact xba _ _ _ (by simp)
 case round=>
  obtain⟨j,a,k,hg,rfl,hR⟩:=hrel;have HR:Hid (NewR w j a k wr):=hR;obtain⟨hB,hC,c0,c1,c2,hS,hown,hz,hO⟩:=hR;have hsc:∀ q,wr.cell? ⟨w.heap.size+1+1+1,q,none⟩=(#[Value.string ⟨#[42]⟩,.string ⟨#[43]⟩,.string ⟨#[45]⟩,.string ⟨#[60]⟩,.string ⟨#[61]⟩]:Array Value)[q]?:=fun q=>by rw[qzB hS]
  have hcc:wr.cell? ⟨w.heap.size+1,15,none⟩=some (.slice a j k):=by rw[qzB hC];rfl
  have hcf:∀ q,wr.frozen? ⟨w.heap.size+1,q,none⟩=false:=fun q=>by unfold World.frozen?;simp[hC]
  have hn1:w.heap.size+1<wr.heap.size:=by omega
  have hn2:w.heap.size+1+1<wr.heap.size:=by omega
  have hn3:w.heap.size+1+1+1<wr.heap.size:=by omega
  have hcc1:=fun x=>qzA (xaj wr x) hcc
  have hcc2:=fun x y=>qzA (xca wr x y) hcc
  have c01:=fun x=>qzA (xaj wr x) c0
  have c02:=fun x y=>qzA (xca wr x y) c0
  clear hS
  by_cases hj:j<5
  ·obtain⟨s,p,hs,hp,htk⟩:=xm3 j hj;obtain⟨g',rfl⟩:∃ g',gk=g'+1:=⟨gk-1,by omega⟩
   have hsj:wr.cell? ⟨w.heap.size+1+1+1,j,none⟩=some (.string s):=by rw[hsc];exact hs
   have hp':∀ h:j<[Value.int .i64 3,Value.int .i64 1,Value.int .i64 2,Value.int .i64 4,Value.int .i64 5].length,[Value.int .i64 3,Value.int .i64 1,Value.int .i64 2,Value.int .i64 4,Value.int .i64 5][j]'h=Value.int .i64 p:=fun h=>by
    rw[List.getElem_eq_iff]
    simpa using hp
   have hj5:(j:Int)<5:=by omega
   have hj0:(0:Int)<=(j:Int):=by omega
   clear hsc hs hp;go_wp2
   go_region_law (refine step_append_lies _ rfl (.tmp 23) (.tmp 30) 52 rfl (w.heap.size+4) 59 i0 _ 5 64 Tryz.underlying52 hi hz0 hz1 hz2 rfl (by decide) (.slice a j k) j (xeA.take (j*5)) (by simp[Act.eval,Act.put]) (show World.ownsRow (World.alloc _ _) _ _ _ _ _ _ from (hown.alloc _).alloc _) ⟨wr.heap.size+1,0,none⟩ 1 1 [.string s,.int .i64 1,.int .i64 0,.int .i64 p,.slice none 0 0] (by simp[Act.eval,Act.put]) rfl (fun q u hu=>by rw[Addr.add_lit,Nat.zero_add];exact (xaa (World.alloc wr _) _ 59 _ (by simp) q).trans (by simpa using hu)) (by intro u hu;simp at hu;rcases hu with rfl | rfl | rfl | rfl | rfl<;>rfl) (by omega) (by unfold maxLen;omega) (by omega) (by simp;omega) _ rfl ?_;intro gg cap2 w2 hown2 hgr hor hlt2;have hfz:w2.frozen? ⟨w.heap.size+1,15,none⟩=false:=((HR.out.grown _ _ hgr).frozen (by simp)).trans (hcf 15);have hcl:w2.cell? ⟨w.heap.size+1,15,none⟩=some (.slice a j k):=((HR.out.grown _ _ hgr).cell (by simp)).trans hcc;have c02:w2.cell? ⟨w.heap.size+1+1,0,none⟩=some (.slice (some ⟨w.heap.size+1,0,none⟩) 4 4):=((HR.out.grown _ _ hgr).cell (by simp)).trans c0)
   all_goals
    go_wp2
    go_roundg g'
    case measure=>omega
    case rel=>exact⟨j+1,some ⟨gg,0,none⟩,cap2,by omega,by go_num,HR.out.step (HR.out.grown _ _ hgr) hown2 htk.symm⟩
  ·obtain rfl:gk=0:=by omega
   obtain rfl:j=5:=by omega
   have hrc:∀ q,wr.cell? ⟨w.heap.size,q,none⟩=(#[Value.slice none 0 0,Value.slice none 0 0,Value.int .i64 0]:Array Value)[q]?:=fun q=>by rw[qzB hO]
   have hrf:∀ q,wr.frozen? ⟨w.heap.size,q,none⟩=false:=fun q=>by unfold World.frozen?;simp[hO]
   go_wp2;refine qzK (v:=WV (.slice (some ⟨w.heap.size+1,0,none⟩) 4 4) (.slice none 0 0) 0) ?_ rfl ⟨_,_,rfl,?_,xbG,xa9 hB (qzC _) _ _ _⟩
   ·simp[results,Tryz.results14,go_sem,hrc,hrf]
   ·have hM:xbd (fun b=>w.heap.size+1<=b) wr (.slice a 5 k) xfw:=by
     obtain⟨-,⟨e,h0⟩ | ⟨g,c,cur,e,h1,h2,h3,h4,h5,h6⟩⟩:=hown
     ·cases h0
     ·cases e
      exact Cells.row xjN xbi (by omega) h2 h6 h3 h4 (by decide)
    have hR:xai (fun b=>w.heap.size+1<=b) wr (.slice (some ⟨w.heap.size+1,0,none⟩) 4 4) xgB:=Cells.row (xjD hM) xaz (by omega) hC rfl (by decide) (by unfold maxLen;omega) (by decide)
    exact hR.keep xaz (xaq (xaq (xaq (Keeps.refl _ _) (by omega) _) (by omega) _) (by omega) _) (fun b hb=>by omega)
end Go.Proofs.YtapbeiccodnniaaGreat
