/- A part. -/
import Derived.Test.YtbafokihegegiaaGreatDoorT33
import Derived.Stop.LaidErr
import Derived.LaidMore
import Derived.Stop.Joined
namespace Go.Proofs.YtbafokihegegiaaGreatDoor
open Go.ChangeShapes Go.WideShapes Go.ChangeAt Go.RowKit
set_option linter.unusedSimpArgs false
set_option linter.unusedVariables false
set_option maxHeartbeats 8000000
set_option maxRecDepth 8000
theorem xvJ {sb:Nat}{w W0 wr:qW}(h:Kp (λt=>t=3) (Gd sb) W0 wr)(a:qY w W0)(d:w.heap.size<=sb):qY w wr:=by
 have a1:=a.size;have a2:=h.size;exact⟨h.os.trans a.os,h.tape.trans a.tape,h.output.trans a.output,by omega,λb c=>(h.blk b (by omega) (by rw[Eb (by omega)];omega)).trans (a.block b c)⟩
theorem xxs:Tryz.prog.cellsOf 54=4:=by kernel_rfl
theorem xxw:Tryz.prog.cellsOf 56=13:=by kernel_rfl
theorem xxl:Tryz.prog.bytesOf 56=160:=by kernel_rfl
section
variable {H:Type} {enc:TypeId × Value->H} {w:World} {base:Nat} {spare:Nat->Bool} {held:Bool}
theorem xwr {n:Nat}{cs:List Value}{x:DataW H × List MemPlace}(f:cs.length=4)(h:DataW.trod enc Tryz.prog w base spare held n 54 cs=some x)(d:∀n∈x.1.weights Tryz.prog 54,n<=140737488351232):∃(v:QV) (s:ByteArray) (u:Value) (l:List QV),cs=[J v.k,J v.n,qZ s,u]/\s.size<=140737488351232/\CG KR w u l:=by
 obtain⟨xs,k,m,b,_,a,c⟩:=DataW.trod_struct Tryz.underlying54 h
 match xs,a,cs,f with
 | [y0,y1,y2],_,[v0,v1,v2,v3],_=>
  have g0:=c 0 _ rfl;have g1:=c 1 _ rfl;have g2:=c 2 _ rfl;simp[xwa,xvI,xxA] at g0 g1 g2;rw[b] at d;obtain⟨v,e0,e1⟩:=xvL rfl g0;obtain⟨s,e2,e5,-⟩:=DataW.trod_string Tryz.underlying9 g1;obtain⟨l,e⟩:=xwd g2 (λq g=>d q (Mq (j:=2) (xs:=[y0,y1,y2]) Tryz.underlying54 rfl rfl q g));simp at e0 e1 e2;subst e0 e1 e2
  have i:s.size<=140737488351232:=by
   have:=d s.data.toList.length (Mq (j:=1) (xs:=[y0,y1,y2]) Tryz.underlying54 rfl rfl _ (by rw[e5];simp[DataW.weights]));simpa using this
  exact⟨v,s,v3,l,rfl,i,e⟩
theorem xwD {n:Nat}{cs:List Value}{x:DataW H × List MemPlace}(p:cs.length=13)(h:DataW.trod enc Tryz.prog w base spare held n 56 cs=some x)(g:∀n∈x.1.weights Tryz.prog 56,n<=140737488351232):∃y,xrV KR w (λk=>cs[k]?) y:=by
 obtain⟨xs,k,z,e,_,d,f⟩:=DataW.trod_struct Tryz.underlying56 h
 match xs,d,cs,p with
 | [y0,y1,y2,y3,y4,y5],_,[v0,v1,v2,v3,v4,v5,v6,v7,v8,v9,v10,v11,v12],_=>
  have g0:=f 0 _ rfl;have g1:=f 1 _ rfl;have g2:=f 2 _ rfl;have g3:=f 3 _ rfl;have g4:=f 4 _ rfl;have g5:=f 5 _ rfl;simp[xvE,xvI,xxe,xxs] at g0 g1 g2 g3 g4 g5;rw[e] at g;obtain⟨a,e0,-,-⟩:=DataW.trod_int Tryz.underlying3 g0;obtain⟨s,e1,e6,-⟩:=DataW.trod_string Tryz.underlying9 g1;obtain⟨b,e2,-,-⟩:=DataW.trod_int Tryz.underlying3 g2;obtain⟨c,e3,-,-⟩:=DataW.trod_int Tryz.underlying3 g3;obtain⟨m,m0,m1,m2,m3,mn,u,m4,r⟩:=xwf rfl g4 (λq i=>g q (Mq (j:=4) (xs:=[y0,y1,y2,y3,y4,y5]) Tryz.underlying56 rfl rfl q i));obtain⟨sv,sn,u2,l,e5,t,o⟩:=xwr rfl g5 (λq i=>g q (Mq (j:=5) (xs:=[y0,y1,y2,y3,y4,y5]) Tryz.underlying56 rfl rfl q i));simp at e0 e1 e2 e3 m0 m1 m2 m3 m4 e5;obtain⟨rfl,rfl,rfl,rfl⟩:=e5;subst e0 e1 e2 e3 m0 m1 m2 m3 m4
  have v:s.size<=140737488351232:=by
   have:=g s.data.toList.length (Mq (j:=1) (xs:=[y0,y1,y2,y3,y4,y5]) Tryz.underlying56 rfl rfl _ (by rw[e6];simp[DataW.weights]));simpa using this
  exact⟨⟨a,b,c,s,m,sv,sn,l⟩,rfl,rfl,rfl,rfl,rfl,rfl,rfl,rfl,rfl,rfl,rfl,⟨v,mn,t⟩,_,_,rfl,r,rfl,o⟩
theorem xuU {r:Reach}{b0:Nat}{v:Value}{d:DataW H}{p:List MemPlace}(hv:Value.okWide Tryz.prog w r b0 22 v)(h:DataW.Trod enc Tryz.prog w base spare held 22 v d p)(b:∀n∈d.weights Tryz.prog 22,n<=140737488351232):∃l,Ps KR w v l:=by
 obtain⟨a1,a,cap,rfl⟩:=okWide_slice Tryz.underlying22 hv;obtain⟨fuel,c⟩:=h;exact xu2 MG Tryz.underlying22 xxw xxl (by omega) (λn cs x e h b=>xwD e h b) (x:=(d,p)) (by simpa [Value.cells] using c) b
theorem xx4:Tryz.prog.bytesOf 3=8:=by kernel_rfl
theorem xx2 {n:Nat}{cs:List Value}{x:DataW H × List MemPlace}(b:cs.length=1)(h:DataW.trod enc Tryz.prog w base spare held n 3 cs=some x):∃y,Md KR w (λk=>cs[k]?) y:=by
 obtain⟨a,e,-,-⟩:=DataW.trod_int Tryz.underlying3 h;subst e;exact⟨a,rfl⟩
theorem xx0 {r:Reach}{b0:Nat}{v:Value}{d:DataW H}{p:List MemPlace}(hv:Value.okWide Tryz.prog w r b0 47 v)(h:DataW.Trod enc Tryz.prog w base spare held 47 v d p)(b:∀n∈d.weights Tryz.prog 47,n<=140737488351232):∃l,LH KR w v l:=by
 obtain⟨a1,a,cap,rfl⟩:=okWide_slice Tryz.underlying47 hv;obtain⟨fuel,c⟩:=h;exact xu2 xrH Tryz.underlying47 xvE xx4 (by omega) (λn cs x e h b=>xx2 e h) (x:=(d,p)) (by simpa [Value.cells] using c) b
end
theorem gPow:Tryz.prog.globalNamed "internal/strconv.uint64pow10" = some 0:=by kernel_rfl
theorem xxR:(Tryz.prog.globals[0]?).map (·.type)=some 285:=by kernel_rfl
theorem gSyn:Tryz.prog.globalNamed "strconv.ErrSyntax" = some 1:=by kernel_rfl
theorem xxS:(Tryz.prog.globals[1]?).map (·.type)=some 167:=by kernel_rfl
theorem gRng:Tryz.prog.globalNamed "strconv.ErrRange" = some 2:=by kernel_rfl
theorem xxT:(Tryz.prog.globals[2]?).map (·.type)=some 167:=by kernel_rfl
theorem xvN:Tryz.prog.cellsOf 324=1:=by kernel_rfl
theorem xvC:Tryz.prog.cellsOf 9=1:=by kernel_rfl
theorem xwZ:Tryz.prog.cellsOf 285=20:=by kernel_rfl
theorem xwV:Tryz.prog.cellsOf 248=1:=by kernel_rfl
theorem xxM : "*" ++ "errors.errorString" = "*errors.errorString" := by decide
theorem xw6 (u:TypeId)(h:Tryz.prog.typeName? 3 u=some "*errors.errorString"):u=322:=
 typeName_ptr_named (nm := "errors.errorString") (by rw[xxM];kernel_rfl) (by kernel_rfl) (by decide) u (by rw[xxM];exact h)
def Qt:List (String × DataW Unit):=[("math/bits.deBruijn32tab",Rows.laid_math_bits_deBruijn32tab),("math/bits.deBruijn64tab",Rows.laid_math_bits_deBruijn64tab),("internal/strconv.uint64pow10",Rows.laid_internal_strconv_uint64pow10),("strconv.ErrRange",Rows.laid_strconv_ErrRange),("strconv.ErrSyntax",Rows.laid_strconv_ErrSyntax)]
theorem xvk {W:qW}(h:laidMetH Tryz.prog Qt W):Vars W:=by
 rw[MakeChecks.laidMetH_plain _ _ _ (by kernel_rfl)] at h;have c:laidMet Tryz.prog (("internal/strconv.uint64pow10",Lib.tabData .u64 Lib.pow10Tab) :: [("strconv.ErrRange",Rows.laid_strconv_ErrRange),("strconv.ErrSyntax",Rows.laid_strconv_ErrSyntax)]) W:=h.tail.tail;obtain⟨a0,s0,a,-,-,-⟩:=laid_sentinel c.tail gRng xxT Tryz.underlying167 xw6 Tryz.underlying322 Tryz.underlying324 rfl rfl Tryz.underlying9 xvN xvC;obtain⟨a1,s1,b,-,-,-⟩:=laid_sentinel c.tail.tail gSyn xxS Tryz.underlying167 xw6 Tryz.underlying322 Tryz.underlying324 rfl rfl Tryz.underlying9 xvN xvC;exact⟨⟨_,_,b⟩,⟨_,_,a⟩,Lib.tabIs_of_head gPow xxR Tryz.underlying285 Tryz.underlying248 xwV xwZ c⟩
end Go.Proofs.YtbafokihegegiaaGreatDoor
