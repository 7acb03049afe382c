import Derived.Test.YtbafokihegegiaaGreatDoorU30
import Derived.BigRegion
import Derived.Deep.RegionLaw
namespace Go.Proofs.YtbafokihegegiaaGreatDoor
open ChangeShapes WideShapes ChangeAt RowKit
set_option linter.unusedSimpArgs false
set_option linter.unusedVariables false
set_option maxHeartbeats 8000000
set_option maxRecDepth 8000
theorem xyA:∀j,j<5->∃(s:ByteArray) (p:Int),(#[qZ ⟨#[42]⟩,qZ ⟨#[43]⟩,qZ ⟨#[45]⟩,qZ ⟨#[60]⟩,qZ ⟨#[61]⟩]:Array Value)[j]?=some (qZ s)/\(#[J 3,J 1,J 2,J 4,J 5]:Array Value)[j]?=some (J p)/\xr7.take ((j+1)*5)=xr7.take (j*5)++[qZ s,J 1,J 0,J p,qN]:=by
 intro j a
 match j,a with
 | 0,_=>exact⟨_,_,rfl,rfl,rfl⟩
 | 1,_=>exact⟨_,_,rfl,rfl,rfl⟩
 | 2,_=>exact⟨_,_,rfl,rfl,rfl⟩
 | 3,_=>exact⟨_,_,rfl,rfl,rfl⟩
 | 4,_=>exact⟨_,_,rfl,rfl,rfl⟩
structure NewR (w:qW)(j:Nat)(a:Option Addr)(k:Nat)(wr:qW):Prop where
 bel:qY w wr
 cls:wr.heap[w.heap.size+1]?=some (.cells (xqn (qS a j k)).toArray 80 (0,0))
 c0:wr.cell? (O (w.heap.size+1+1) 0)=some (qG (w.heap.size+1) 4 4)
 c1:wr.cell? (O (w.heap.size+1+1) 1)=some (qN)
 c2:wr.cell? (O (w.heap.size+1+1) 2)=some (J 0)
 str:wr.heap[w.heap.size+1+1+1]?=some (qC #[qZ ⟨#[42]⟩,qZ ⟨#[43]⟩,qZ ⟨#[45]⟩,qZ ⟨#[60]⟩,qZ ⟨#[61]⟩] 9 (0,0))
 own:wr.ownsRow (w.heap.size+4) 51 5 (qS a j k) j (xr7.take (j*5))
 size:w.heap.size+4<=wr.heap.size
 res:wr.heap[w.heap.size]?=some (qO)
theorem NewR.grown {w:qW}{j:Nat}{a:Option Addr}{k:Nat}{wr w3:qW}(h:NewR w j a k wr)(o1 o2:Obj)(b:((wr.alloc o1).alloc o2).drew.grownBy w3 (Value.ownBlock (qS a j k))):Below (w.heap.size+4) wr w3:=by
 have f:=h.size;refine (((Br _ wr).alloc f o1).alloc (by simp;omega) o2).drew.grown b (by simp;omega) (λk' d=>?_);obtain⟨-,⟨e,-⟩ | ⟨g,c,cur,e,i,-⟩⟩:=h.own
 ·rw[e] at d;cases d
 rw[e] at d;simp[Value.ownBlock] at d;omega
theorem NewR.step {w:qW}{j:Nat}{a:Option Addr}{k:Nat}{wr w3:qW}{gg b:Nat}{cs:List Value}(h:NewR w j a k wr)(e:Below (w.heap.size+4) wr w3)(c:w3.ownsRow (w.heap.size+4) 51 5 (qG gg (j+1) b) (j+1) (xr7.take (j*5)++cs))(d:xr7.take (j*5)++cs=xr7.take ((j+1)*5)):NewR w (j+1) (some (O gg 0)) b (w3.setCell (O (w.heap.size+1) 15) (qG gg (j+1) b)):=by
 have i:=h.size;have g:=e.size;have f:w3.heap[w.heap.size+1]?=some (.cells (xqn (qS a j k)).toArray 80 (0,0)):=by rw[e.block _ Zo];exact h.cls
 refine⟨(h.bel.trans (e.mono Zo)).setCell (by show w.heap.size<=w.heap.size+1;omega) _,?_,?_,?_,?_,?_,?_,?_,?_⟩
 ·rw[BW f];rfl
 ·rw[BV _ _ _ _ (by simp),e.cell (by simp)];exact h.c0
 ·rw[BV _ _ _ _ (by simp),e.cell (by simp)];exact h.c1
 ·rw[BV _ _ _ _ (by simp),e.cell (by simp)];exact h.c2
 ·rw[BS Zo,e.block _ Zo];exact h.str
 ·rw[d] at c;exact ownsRow_setCell_below c (by show w.heap.size+1<w.heap.size+4;omega) _
 ·rw[GT];omega
 rw[BS Zo,e.block _ Zo];exact h.res
theorem xyx (w:qW):Calls Tryz.prog 16 #[] w λe w'=>∃cv hv,e=.returned (WV cv hv 0)/\BK (λb=>w.heap.size<=b) w' cv xlV.cz/\BP (λb=>w.heap.size<=b) w' hv []/\qY w w':=by
 obtain⟨i0,hi,o,r,t⟩:=Gb xnI;go_enter Tryz.func16,Tryz.ntmps16;go_wp2
 go_loopg [12] 5 (λg i wr=>∃(j:Nat) (a:Option Addr) (k:Nat),j+g=5/\i=J j/\NewR w j a k wr)
 case atStart=>
  refine⟨0,none,0,rfl,rfl,?_,?_,?_,?_,?_,?_,⟨rfl,Or.inl ⟨rfl,rfl⟩⟩,by simp,?_⟩
  ·exact (DW _ _ _ _).alloc (by simp;omega) _
  ·rw[(BG _ _ _).block _ (by simp)];exact Dh _ _ _ (by simp)
  ·exact Bf (Bg _ _) (by rw[Bp _ _ _ _ (by simp)];rfl)
  ·exact Bf (Bg _ _) (by rw[Bp _ _ _ _ (by simp)];rfl)
  ·exact Bf (Bg _ _) (by rw[Bp _ _ _ _ (by simp)];rfl)
  ·exact Dh _ _ _ (by simp)
  rw[(DW _ _ _ _).block _ (by simp)];exact Dh _ _ _ (by simp)
 case round=>
  obtain⟨j,a,k,hg,rfl,G⟩:=hrel;have D:Hid (NewR w j a k wr):=G;obtain⟨hB,K,c0,c1,c2,R,f,hz,Q⟩:=G;have F:∀q,wr.cell? (O (w.heap.size+1+1+1) q)=(#[qZ ⟨#[42]⟩,qZ ⟨#[43]⟩,qZ ⟨#[45]⟩,qZ ⟨#[60]⟩,qZ ⟨#[61]⟩]:Array Value)[q]?:=λq=>by rw[Bn R]
  have C:wr.cell? (O (w.heap.size+1) 15)=some (qS a j k):=by rw[Bn K];rfl
  have L:∀q,wr.frozen? (O (w.heap.size+1) q)=false:=λq=>by unfold World.frozen?;simp[K]
  have a4:w.heap.size+1<wr.heap.size:=by omega
  have a5:w.heap.size+1+1<wr.heap.size:=by omega
  have a6:w.heap.size+1+1+1<wr.heap.size:=by omega
  have S:=λx=>Bf (Bg wr x) C;have T:=λx y=>Bf (BG wr x y) C;have c01:=λx=>Bf (Bg wr x) c0;have c02:=λx y=>Bf (BG wr x y) c0;clear R;by_cases hj:j<5
  ·obtain⟨s,p,V,U,n⟩:=xyA j hj;obtain⟨g',rfl⟩:∃g',gk=g'+1:=⟨gk-1,by omega⟩
   have a8:wr.cell? (O (w.heap.size+1+1+1) j)=some (qZ s):=by rw[F];exact V
   have a7:∀h:j<[J 3,J 1,J 2,J 4,J 5].length,[J 3,J 1,J 2,J 4,J 5][j]'h=J p:=λh=>by
    rw[List.getElem_eq_iff];simpa using U
   have a3:(j:Int)<5:=by omega
   have a2:(0:Int)<=(j:Int):=by omega
   clear F V U;go_wp2
   go_region_law (refine step_append_lies _ rfl (.tmp 23) (.tmp 30) 78 rfl (w.heap.size+4) 51 i0 _ 5 64 Tryz.underlying78 hi o r t rfl (by decide) (qS a j k) j (xr7.take (j*5)) (by simp[Act.eval,Act.put]) (show World.ownsRow (World.alloc _ _) _ _ _ _ _ _ from (f.alloc _).alloc _) (O (wr.heap.size+1) 0) 1 1 [qZ s,J 1,J 0,J p,qN] (by simp[Act.eval,Act.put]) rfl (λq u H=>by rw[Addr.add_lit,Nat.zero_add];exact (Bp (World.alloc wr _) _ 51 _ (by simp) q).trans (by simpa using H)) (by intro u H;simp at H;rcases H with rfl | rfl | rfl | rfl | rfl<;>rfl) Zo (by unfold maxLen;omega) Zo (by simp;omega) _ rfl ?_;intro gg m w2 l d B z;have a1:w2.frozen? (O (w.heap.size+1) 15)=false:=((D.out.grown _ _ d).frozen (by simp)).trans (L 15);have a0:w2.cell? (O (w.heap.size+1) 15)=some (qS a j k):=((D.out.grown _ _ d).cell (by simp)).trans C;have c02:w2.cell? (O (w.heap.size+1+1) 0)=some (qG (w.heap.size+1) 4 4):=((D.out.grown _ _ d).cell (by simp)).trans c0)
   all_goals
    go_wp2;go_roundg g'
    case measure=>omega
    case rel=>exact⟨j+1,some (O gg 0),m,by omega,by go_num,D.out.step (D.out.grown _ _ d) l n.symm⟩
  obtain rfl:gk=0:=by omega
  obtain rfl:j=5:=by omega
  have M:∀q,wr.cell? (O w.heap.size q)=(#[qN,qN,J 0]:Array Value)[q]?:=λq=>by rw[Bn Q]
  have N:∀q,wr.frozen? (O w.heap.size q)=false:=λq=>by unfold World.frozen?;simp[Q]
  go_wp2;refine Bt (v:=WV (qG (w.heap.size+1) 4 4) (qN) 0) ?_ rfl ⟨_,_,rfl,?_,GZ,xyh hB (Bq _) _ _ _⟩
  ·simp[results,Tryz.results16,go_sem,M,N]
  have hM:EC (λb=>w.heap.size+1<=b) wr (qS a 5 k) xrh:=by
   obtain⟨-,⟨e,W⟩ | ⟨g,c,cur,e,h1,X,Y,Z,h5,h6⟩⟩:=f
   ·cases W
   cases e;exact Cells.row xmx xbj Zo X h6 Y Z (by decide)
  have G:BK (λb=>w.heap.size+1<=b) wr (qG (w.heap.size+1) 4 4) xo1:=Cells.row (xmq hM) Bw Zo K rfl (by decide) (by unfold maxLen;omega) (by decide);exact G.keep Bw (CK (CK (CK (Keeps.refl _ _) Zo _) Zo _) Zo _) (λb hb=>by omega)
end Go.Proofs.YtbafokihegegiaaGreatDoor
