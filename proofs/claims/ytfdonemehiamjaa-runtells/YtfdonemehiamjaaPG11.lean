/- The code of a send's later parts. -/
import Derived.Test.YtfdonemehiamjaaPG14
namespace Go.Proofs.Ytfdonemehiamjaa
set_option maxRecDepth 8000
def reg42 : Code := (Code.region 42 #[
    ⟨some 202, .load 28 (.tmp 12), 28, "ref.go:109", #[], none⟩, 
    ⟨some 203, .move (.tmp 18), 3, "ref.go:109", #[], none⟩, 
    ⟨some 204, .binOp .sub 3 (.tmp 203) (.const (.int .i64 1)) 3, 3, "ref.go:109", #[⟨1,.data⟩], none⟩, 
    ⟨some 205, .slice 28 (.tmp 202) none (some (.tmp 204)) none, 28, "ref.go:109", #[⟨0,.data⟩,⟨2,.data⟩], none⟩, 
    ⟨none, .store 28 (.tmp 12) (.tmp 205), 0, "ref.go:109", #[⟨3,.data⟩,⟨0,.phase⟩,⟨1,.phase⟩,⟨2,.phase⟩,⟨3,.phase⟩], none⟩] false)
def sd43 : Code := ((Code.region 43 #[
    ⟨some 206, .move (.tmp 0), 37, "ref.go:110", #[], none⟩, 
    ⟨some 207, .nilCheck (.tmp 206), 0, "ref.go:110", #[⟨0,.data⟩], none⟩, 
    ⟨some 208, .fieldAddr 68 (.tmp 207) 0, 0, "ref.go:110", #[⟨1,.data⟩], none⟩, 
    ⟨some 209, .fieldAddr 25 (.tmp 208) 1, 0, "ref.go:110", #[⟨2,.data⟩], none⟩, 
    ⟨some 210, .load 23 (.tmp 209), 23, "ref.go:110", #[⟨3,.data⟩], none⟩, 
    ⟨some 211, .load 27 (.tmp 20), 27, "ref.go:110", #[], none⟩, 
    ⟨some 212, .call ⟨.value (.func 23), #[.tmp 210, .tmp 211], #[23, 27]⟩, 3, "ref.go:110", #[⟨4,.data⟩,⟨5,.data⟩], none⟩, 
    ⟨some 21, .assign (.tmp 212), 3, "ref.go:110", #[⟨6,.data⟩,⟨6,.chain⟩,⟨0,.phase⟩,⟨1,.phase⟩,⟨2,.phase⟩,⟨3,.phase⟩,⟨4,.phase⟩,⟨5,.phase⟩,⟨6,.phase⟩], none⟩] true).seq ((Code.region 44 #[
    ⟨some 213, .move (.tmp 0), 37, "ref.go:111", #[], none⟩, 
    ⟨some 214, .move (.tmp 0), 37, "ref.go:111", #[⟨22, .gcOnly .lateStores⟩], none⟩, 
    ⟨some 215, .move (.tmp 0), 37, "ref.go:111", #[], none⟩, 
    ⟨some 216, .nilCheck (.tmp 215), 0, "ref.go:111", #[⟨2,.data⟩], none⟩, 
    ⟨some 217, .fieldAddr 68 (.tmp 216) 6, 0, "ref.go:111", #[⟨3,.data⟩], none⟩, 
    ⟨some 218, .load 65 (.tmp 217), 65, "ref.go:111", #[⟨4,.data⟩], none⟩, 
    ⟨some 219, .move (.tmp 1), 3, "ref.go:111", #[], none⟩, 
    ⟨some 220, .fieldAddr 54 (.tmp 7) 0, 0, "ref.go:111", #[], none⟩, 
    ⟨some 221, .load 9 (.tmp 220), 9, "ref.go:111", #[⟨7,.data⟩], none⟩, 
    ⟨some 222, .move (.tmp 14), 3, "ref.go:111", #[], none⟩, 
    ⟨some 223, .build 92 #[(0, .tmp 219), (1, .tmp 221), (2, .tmp 222)], 92, "ref.go:111", #[⟨6,.data⟩,⟨8,.data⟩,⟨9,.data⟩], none⟩, 
    ⟨some 224, .buildSlice 65 1 #[(0, .tmp 223)], 65, "ref.go:111", #[⟨10,.data⟩], none⟩, 
    ⟨some 225, .call ⟨.builtin .append, #[.tmp 218, .tmp 224], #[65, 65]⟩, 65, "ref.go:111", #[⟨5,.data⟩,⟨11,.data⟩], none⟩, 
    ⟨some 226, .move (.tmp 0), 37, "ref.go:111", #[], none⟩, 
    ⟨some 227, .nilCheck (.tmp 226), 0, "ref.go:111", #[⟨13,.data⟩], none⟩, 
    ⟨some 228, .fieldAddr 68 (.tmp 227) 7, 0, "ref.go:111", #[⟨14,.data⟩], none⟩, 
    ⟨some 229, .load 66 (.tmp 228), 66, "ref.go:111", #[⟨15,.data⟩], none⟩, 
    ⟨some 230, .move (.tmp 21), 3, "ref.go:111", #[], none⟩, 
    ⟨some 231, .buildSlice 66 1 #[(0, .tmp 230)], 66, "ref.go:111", #[⟨17,.data⟩], none⟩, 
    ⟨some 232, .call ⟨.builtin .append, #[.tmp 229, .tmp 231], #[66, 66]⟩, 66, "ref.go:111", #[⟨16,.data⟩,⟨18,.data⟩,⟨12,.chain⟩], none⟩, 
    ⟨some 233, .nilCheck (.tmp 213), 0, "ref.go:111", #[⟨0,.data⟩,⟨0,.phase⟩,⟨1, .textOnly .lateStores⟩,⟨2,.phase⟩,⟨3,.phase⟩,⟨4,.phase⟩,⟨5,.phase⟩,⟨6,.phase⟩,⟨7,.phase⟩,⟨8,.phase⟩,⟨9,.phase⟩,⟨10,.phase⟩,⟨11,.phase⟩,⟨12,.phase⟩,⟨13, .textOnly .lateStores⟩,⟨14, .textOnly .lateStoresUnsure⟩,⟨15, .textOnly .lateStoresUnsure⟩,⟨16,.phase⟩,⟨17, .textOnly .lateStores⟩,⟨18, .textOnly .lateStoresUnsure⟩,⟨19,.phase⟩], none⟩, 
    ⟨some 234, .fieldAddr 68 (.tmp 233) 6, 0, "ref.go:111", #[⟨20,.data⟩,⟨0,.phase⟩,⟨1, .textOnly .lateStores⟩,⟨2,.phase⟩,⟨3,.phase⟩,⟨4,.phase⟩,⟨5,.phase⟩,⟨6,.phase⟩,⟨7,.phase⟩,⟨8,.phase⟩,⟨9,.phase⟩,⟨10,.phase⟩,⟨11,.phase⟩,⟨12,.phase⟩,⟨13, .textOnly .lateStores⟩,⟨14, .textOnly .lateStoresUnsure⟩,⟨15, .textOnly .lateStoresUnsure⟩,⟨16,.phase⟩,⟨17, .textOnly .lateStores⟩,⟨18, .textOnly .lateStoresUnsure⟩,⟨19,.phase⟩], none⟩, 
    ⟨none, .store 65 (.tmp 234) (.tmp 225), 0, "ref.go:111", #[⟨21,.data⟩,⟨12,.data⟩,⟨19,.chain⟩,⟨0,.phase⟩,⟨1, .textOnly .lateStores⟩,⟨2,.phase⟩,⟨3,.phase⟩,⟨4,.phase⟩,⟨5,.phase⟩,⟨6,.phase⟩,⟨7,.phase⟩,⟨8,.phase⟩,⟨9,.phase⟩,⟨10,.phase⟩,⟨11,.phase⟩,⟨12,.phase⟩,⟨13, .textOnly .lateStores⟩,⟨14, .textOnly .lateStoresUnsure⟩,⟨15, .textOnly .lateStoresUnsure⟩,⟨16,.phase⟩,⟨17, .textOnly .lateStores⟩,⟨18, .textOnly .lateStoresUnsure⟩,⟨19,.phase⟩], none⟩, 
    ⟨some 235, .nilCheck (.tmp 214), 0, "ref.go:111", #[⟨1,.data⟩,⟨0,.phase⟩,⟨1,.phase⟩,⟨2,.phase⟩,⟨3,.phase⟩,⟨4,.phase⟩,⟨5,.phase⟩,⟨6,.phase⟩,⟨7,.phase⟩,⟨8,.phase⟩,⟨9,.phase⟩,⟨10,.phase⟩,⟨11,.phase⟩,⟨12,.phase⟩,⟨13,.phase⟩,⟨14,.phase⟩,⟨15,.phase⟩,⟨16,.phase⟩,⟨17,.phase⟩,⟨18,.phase⟩,⟨19,.phase⟩,⟨20,.phase⟩,⟨21,.phase⟩,⟨22,.phase⟩], none⟩, 
    ⟨some 236, .fieldAddr 68 (.tmp 235) 7, 0, "ref.go:111", #[⟨23,.data⟩,⟨0,.phase⟩,⟨1,.phase⟩,⟨2,.phase⟩,⟨3,.phase⟩,⟨4,.phase⟩,⟨5,.phase⟩,⟨6,.phase⟩,⟨7,.phase⟩,⟨8,.phase⟩,⟨9,.phase⟩,⟨10,.phase⟩,⟨11,.phase⟩,⟨12,.phase⟩,⟨13,.phase⟩,⟨14,.phase⟩,⟨15,.phase⟩,⟨16,.phase⟩,⟨17,.phase⟩,⟨18,.phase⟩,⟨19,.phase⟩,⟨20,.phase⟩,⟨21,.phase⟩,⟨22,.phase⟩], none⟩, 
    ⟨none, .store 66 (.tmp 236) (.tmp 232), 0, "ref.go:111", #[⟨24,.data⟩,⟨19,.data⟩,⟨22,.chain⟩,⟨0,.phase⟩,⟨1,.phase⟩,⟨2,.phase⟩,⟨3,.phase⟩,⟨4,.phase⟩,⟨5,.phase⟩,⟨6,.phase⟩,⟨7,.phase⟩,⟨8,.phase⟩,⟨9,.phase⟩,⟨10,.phase⟩,⟨11,.phase⟩,⟨12,.phase⟩,⟨13,.phase⟩,⟨14,.phase⟩,⟨15,.phase⟩,⟨16,.phase⟩,⟨17,.phase⟩,⟨18,.phase⟩,⟨19,.phase⟩,⟨20,.phase⟩,⟨21,.phase⟩,⟨22,.phase⟩], none⟩] true).seq ((Code.region 45 #[
    ⟨some 238, .move (.tmp 0), 37, "ref.go:112", #[], none⟩, 
    ⟨some 239, .nilCheck (.tmp 238), 0, "ref.go:112", #[⟨0,.data⟩], none⟩, 
    ⟨some 240, .fieldAddr 68 (.tmp 239) 0, 0, "ref.go:112", #[⟨1,.data⟩], none⟩, 
    ⟨some 241, .load 25 (.tmp 240), 25, "ref.go:112", #[⟨2,.data⟩], none⟩, 
    ⟨some 242, .move (.tmp 21), 3, "ref.go:112", #[], none⟩, 
    ⟨some 243, .fieldAddr 81 (.tmp 15) 4, 0, "ref.go:112", #[], none⟩, 
    ⟨some 244, .load 9 (.tmp 243), 9, "ref.go:112", #[⟨5,.data⟩], none⟩, 
    ⟨some 245, .call ⟨.value (.func 22), #[.tmp 241, .tmp 242, .tmp 244], #[25, 3, 9]⟩, 69, "ref.go:112", #[⟨3,.data⟩,⟨4,.data⟩,⟨6,.data⟩], none⟩, 
    ⟨some 237, .move (.tmp 245), 69, "ref.go:112", #[⟨7,.data⟩], none⟩, 
    ⟨some 246, .extract (.tmp 237) 0, 3, "ref.go:112", #[⟨8,.data⟩], none⟩, 
    ⟨some 247, .extract (.tmp 237) 1, 3, "ref.go:112", #[⟨8,.data⟩,⟨11, .gcOnly .lateStores⟩], none⟩, 
    ⟨some 22, .assign (.tmp 246), 3, "ref.go:112", #[⟨9,.data⟩,⟨7,.chain⟩,⟨0,.phase⟩,⟨1,.phase⟩,⟨2,.phase⟩,⟨3,.phase⟩,⟨4,.phase⟩,⟨5,.phase⟩,⟨6,.phase⟩,⟨7,.phase⟩,⟨8,.phase⟩,⟨9,.phase⟩,⟨10, .textOnly .lateStores⟩], none⟩, 
    ⟨some 23, .assign (.tmp 247), 3, "ref.go:112", #[⟨10,.data⟩,⟨11,.chain⟩,⟨0,.phase⟩,⟨1,.phase⟩,⟨2,.phase⟩,⟨3,.phase⟩,⟨4,.phase⟩,⟨5,.phase⟩,⟨6,.phase⟩,⟨7,.phase⟩,⟨8,.phase⟩,⟨9,.phase⟩,⟨10,.phase⟩,⟨11,.phase⟩], none⟩] true).seq (((Code.region 46 #[
    ⟨some 248, .move (.tmp 23), 3, "ref.go:113", #[], none⟩, 
    ⟨some 249, .binOp .lss 3 (.tmp 248) (.const (.int .i64 0)) 3, 4, "ref.go:113", #[⟨0,.data⟩], none⟩] false).seq (Code.cond (Operand.tmp 249) ((Code.region 47 #[
    ⟨some 250, .move (.tmp 0), 37, "ref.go:114", #[], none⟩, 
    ⟨some 251, .nilCheck (.tmp 250), 0, "ref.go:114", #[⟨0,.data⟩,⟨0,.phase⟩], none⟩, 
    ⟨some 252, .fieldAddr 68 (.tmp 251) 5, 0, "ref.go:114", #[⟨1,.data⟩,⟨0,.phase⟩], none⟩, 
    ⟨none, .store 31 (.tmp 252) (.const (.int .i64 10)), 0, "ref.go:114", #[⟨2,.data⟩,⟨0,.phase⟩], none⟩] false).seq (Code.exit 2)) Code.skip)).seq (Code.region 48 #[
    ⟨some 253, .load 28 (.tmp 12), 28, "ref.go:117", #[], none⟩, 
    ⟨some 254, .move (.tmp 0), 37, "ref.go:117", #[], none⟩, 
    ⟨some 255, .move (.tmp 22), 3, "ref.go:117", #[], none⟩, 
    ⟨some 256, .move (.tmp 23), 3, "ref.go:117", #[], none⟩, 
    ⟨some 257, .load 27 (.tmp 20), 27, "ref.go:117", #[], none⟩, 
    ⟨some 258, .move (.tmp 19), 28, "ref.go:117", #[], none⟩, 
    ⟨some 259, .call ⟨.value (.func 24), #[.tmp 254, .tmp 255, .tmp 256, .tmp 257, .tmp 258], #[37, 3, 3, 27, 28]⟩, 27, "ref.go:117", #[⟨1,.data⟩,⟨2,.data⟩,⟨3,.data⟩,⟨4,.data⟩,⟨5,.data⟩], none⟩, 
    ⟨some 260, .buildSlice 28 1 #[(0, .tmp 259)], 28, "ref.go:117", #[⟨6,.data⟩], none⟩, 
    ⟨some 261, .call ⟨.builtin .append, #[.tmp 253, .tmp 260], #[28, 28]⟩, 28, "ref.go:117", #[⟨0,.data⟩,⟨7,.data⟩,⟨6,.chain⟩], none⟩, 
    ⟨none, .store 28 (.tmp 12) (.tmp 261), 0, "ref.go:117", #[⟨8,.data⟩,⟨8,.chain⟩,⟨0,.phase⟩,⟨1,.phase⟩,⟨2,.phase⟩,⟨3,.phase⟩,⟨4,.phase⟩,⟨5,.phase⟩,⟨6,.phase⟩,⟨7,.phase⟩,⟨8,.phase⟩], none⟩] true)))))
def reg45 : Code := (Code.region 45 #[
    ⟨some 238, .move (.tmp 0), 37, "ref.go:112", #[], none⟩, 
    ⟨some 239, .nilCheck (.tmp 238), 0, "ref.go:112", #[⟨0,.data⟩], none⟩, 
    ⟨some 240, .fieldAddr 68 (.tmp 239) 0, 0, "ref.go:112", #[⟨1,.data⟩], none⟩, 
    ⟨some 241, .load 25 (.tmp 240), 25, "ref.go:112", #[⟨2,.data⟩], none⟩, 
    ⟨some 242, .move (.tmp 21), 3, "ref.go:112", #[], none⟩, 
    ⟨some 243, .fieldAddr 81 (.tmp 15) 4, 0, "ref.go:112", #[], none⟩, 
    ⟨some 244, .load 9 (.tmp 243), 9, "ref.go:112", #[⟨5,.data⟩], none⟩, 
    ⟨some 245, .call ⟨.value (.func 22), #[.tmp 241, .tmp 242, .tmp 244], #[25, 3, 9]⟩, 69, "ref.go:112", #[⟨3,.data⟩,⟨4,.data⟩,⟨6,.data⟩], none⟩, 
    ⟨some 237, .move (.tmp 245), 69, "ref.go:112", #[⟨7,.data⟩], none⟩, 
    ⟨some 246, .extract (.tmp 237) 0, 3, "ref.go:112", #[⟨8,.data⟩], none⟩, 
    ⟨some 247, .extract (.tmp 237) 1, 3, "ref.go:112", #[⟨8,.data⟩,⟨11, .gcOnly .lateStores⟩], none⟩, 
    ⟨some 22, .assign (.tmp 246), 3, "ref.go:112", #[⟨9,.data⟩,⟨7,.chain⟩,⟨0,.phase⟩,⟨1,.phase⟩,⟨2,.phase⟩,⟨3,.phase⟩,⟨4,.phase⟩,⟨5,.phase⟩,⟨6,.phase⟩,⟨7,.phase⟩,⟨8,.phase⟩,⟨9,.phase⟩,⟨10, .textOnly .lateStores⟩], none⟩, 
    ⟨some 23, .assign (.tmp 247), 3, "ref.go:112", #[⟨10,.data⟩,⟨11,.chain⟩,⟨0,.phase⟩,⟨1,.phase⟩,⟨2,.phase⟩,⟨3,.phase⟩,⟨4,.phase⟩,⟨5,.phase⟩,⟨6,.phase⟩,⟨7,.phase⟩,⟨8,.phase⟩,⟨9,.phase⟩,⟨10,.phase⟩,⟨11,.phase⟩], none⟩] true)
def sd46 : Code := (((Code.region 46 #[
    ⟨some 248, .move (.tmp 23), 3, "ref.go:113", #[], none⟩, 
    ⟨some 249, .binOp .lss 3 (.tmp 248) (.const (.int .i64 0)) 3, 4, "ref.go:113", #[⟨0,.data⟩], none⟩] false).seq (Code.cond (Operand.tmp 249) ((Code.region 47 #[
    ⟨some 250, .move (.tmp 0), 37, "ref.go:114", #[], none⟩, 
    ⟨some 251, .nilCheck (.tmp 250), 0, "ref.go:114", #[⟨0,.data⟩,⟨0,.phase⟩], none⟩, 
    ⟨some 252, .fieldAddr 68 (.tmp 251) 5, 0, "ref.go:114", #[⟨1,.data⟩,⟨0,.phase⟩], none⟩, 
    ⟨none, .store 31 (.tmp 252) (.const (.int .i64 10)), 0, "ref.go:114", #[⟨2,.data⟩,⟨0,.phase⟩], none⟩] false).seq (Code.exit 2)) Code.skip)).seq (Code.region 48 #[
    ⟨some 253, .load 28 (.tmp 12), 28, "ref.go:117", #[], none⟩, 
    ⟨some 254, .move (.tmp 0), 37, "ref.go:117", #[], none⟩, 
    ⟨some 255, .move (.tmp 22), 3, "ref.go:117", #[], none⟩, 
    ⟨some 256, .move (.tmp 23), 3, "ref.go:117", #[], none⟩, 
    ⟨some 257, .load 27 (.tmp 20), 27, "ref.go:117", #[], none⟩, 
    ⟨some 258, .move (.tmp 19), 28, "ref.go:117", #[], none⟩, 
    ⟨some 259, .call ⟨.value (.func 24), #[.tmp 254, .tmp 255, .tmp 256, .tmp 257, .tmp 258], #[37, 3, 3, 27, 28]⟩, 27, "ref.go:117", #[⟨1,.data⟩,⟨2,.data⟩,⟨3,.data⟩,⟨4,.data⟩,⟨5,.data⟩], none⟩, 
    ⟨some 260, .buildSlice 28 1 #[(0, .tmp 259)], 28, "ref.go:117", #[⟨6,.data⟩], none⟩, 
    ⟨some 261, .call ⟨.builtin .append, #[.tmp 253, .tmp 260], #[28, 28]⟩, 28, "ref.go:117", #[⟨0,.data⟩,⟨7,.data⟩,⟨6,.chain⟩], none⟩, 
    ⟨none, .store 28 (.tmp 12) (.tmp 261), 0, "ref.go:117", #[⟨8,.data⟩,⟨8,.chain⟩,⟨0,.phase⟩,⟨1,.phase⟩,⟨2,.phase⟩,⟨3,.phase⟩,⟨4,.phase⟩,⟨5,.phase⟩,⟨6,.phase⟩,⟨7,.phase⟩,⟨8,.phase⟩], none⟩] true))
end Go.Proofs.Ytfdonemehiamjaa
/- Body's switch: a send, its last part: Find, Enter. -/
namespace Go.Proofs.Ytfdonemehiamjaa
open Go.ChangeShapes Go.WideShapes Go.ChangeAt Go.RowKit
set_option linter.unusedSimpArgs false
set_option linter.unusedVariables false
set_option maxRecDepth 100000

set_option maxHeartbeats 8000000 in
theorem br14c {p : Rp} {d : Nat} {T T1 : Nat → Nat} {w wr W : World} {mb K : Nat} {R : Mc RSt × QV × Int} {av kv : Value} {gk G' : Nat} {m : Mc RSt} {f : Fr} {c : Int} {n1 n2 n3 k : Nat} {x : QI} {hv sv ov : Value} {sa : Option Addr} {sc : Nat} (H : SwC p d T w mb K R av kv gk G' c n1 n2 n3 T1 m f wr W k x hv sv ov sa sc) (hop : x.op = 14)
    {V : World} {T4 : Nat → Nat} {nn na xb : Nat} {xv : QV} {asv hv4 sv4 ov4 : Value} {kl : Int} (hna : x.a = (na : Int)) (hlen : f.stack.length = nn + 1 + na) (hxv : f.stack[nn]? = some xv) (hkl : classV m.heap xv = kl)
    (hE : Ext T1 T4 wr) (hKp : Kp (All K) T1 wr V) (hB : SdB p d mb K w.heap.size wr.heap.size xb T4 V { m with st := m.st ++ [(⟨c, f.meth.name, (k : Int)⟩, kl)] } 0 { f with stack := f.stack.take nn } x.name xv (f.stack.drop (nn + 1)) asv av kv (.slice sa nn sc) hv4 sv4 ov4)
    {u0 u1 u2 u3 u4 u5 u6 ua ub uc ud ue uf ug uh ui uj uk ul um un uo up uq ur us ut uu uv uw ux uy uz ua0 ua1 ua2 ua3 ua4 ua5 ua6 ua7 ua8 ua9 uaa uab uac
    uad uae uaf uag uah uai uaj uak ual uam uan uao uap uaq uar uas uat uau uav uaw uax uay uaz ub0 ub1 ub2 ub3 ub4 ub5 ub6 ub7 ub8 ub9 uba ubb ubc ubd ube ubf ubg ubh ubi ubj ubk
    ubl ubm ubn ubo ubp ubq ubr ubs ubt ubu ubv ubw ubx uby ubz uc0 uc1 uc2 uc3 uc4 uc5 uc6 uc7 uc8 uc9 uca ucb ucc ucd uce ucf ucg uch uci ucj uck
    ucl ucm ucn uco ucp ucq ucr ucs uct ucu ucv ucw ucx ucy ucz ud0 ud1 ud2 ud3 ud4 ud5 ud6 ud7 ud8 ud9 uda udb udc udd ude udf udg udh udi udj udk
    udl udm udn udo udp udq udr uds udt udu udv udw udx udy udz ue0 ue1 ue2 ue3 ue4 ue5 ue6 ue7 ue8 ue9 uea ueb uec ued uee uef ueg ueh uei uej uek
    uel uem uen ueo uep ueq uer ues uet ueu uev uew uex uey uez uf0 uf1 uf2 uf3 uf4 uf5 uf6 uf7 uf8 uf9 ufa ufb ufc ufd ufe uff ufg ufh ufi ufj ufk
    ufl ufm ufn ufo ufp ufq ufr ufs uft ufu ufv ufw ufx ufy ufz ug0 ug1 ug2 ug3 ug4 ug5 ug6 ug7 ug8 ug9 uga ugb ugc ugd uge ugf ugg ugh ugi ugj ugk
    ugl ugm ugn ugo ugp ugq ugr ugs ugt ugu ugv ugw ugx ugy ugz uh0 uh1 uh2 uh3 : Value}
    {KT K2 K3 : Act → World → Prop}
    (hN : ∀ (u5 u6 u7 u8 u9 ua ub uc uu uv uw ux uy uz ua0 ua1 ua2 ua3 ua4 ua5 ua6 ua7 ua8 ua9 uaa uab uac uad uae uaf uag uah uai uaj uak ual uam uan uao uap uaq uar uas uat uau
    uav uaw uax uay uaz ub0 ub1 ub2 ub3 ub4 ub5 ub6 ub7 ub8 ub9 uba ubb ubc ubd ube ubf ubg ubh ubi ubj ubk ubl ubm ubn ubo ubp ubq ubr ubs ubt ubu ubv ubw ubx uby
    ubz uc0 uc1 uc2 uc3 uc4 uc5 uc6 uc7 uc8 uc9 uca ucb ucc ucd uce ucf ucg uch uci ucj uck ucl ucm ucn uco ucp ucq ucr ucs uct ucu ucv ucw ucx ucy
    ucz ud0 ud1 ud2 ud3 ud4 ud5 ud6 ud7 ud8 ud9 uda udb udc udd ude udf udg udh udi udj udk udl udm udn udo udp udq udr uds udt udu udv udw udx udy
    udz ue0 ue1 ue2 ue3 ue4 ue5 ue6 ue7 ue8 ue9 uea ueb uec ued uee uef ueg ueh uei uej uek uel uem uen ueo uep ueq uer ues uet ueu uev uew uex uey
    uez uf0 uf1 uf2 uf3 uf4 uf5 uf6 uf7 uf8 uf9 ufa ufb ufc ufd ufe uff ufg ufh ufi ufj ufk ufl ufm ufn ufo ufp ufq ufr ufs uft ufu ufv ufw ufx ufy
    ufz ug0 ug1 ug2 ug3 ug4 ug5 ug6 ug7 ug8 ug9 uga ugb ugc ugd uge ugf ugg ugh ugi ugj : Value) (tg : Int) (w' : World), SwOk p d T w mb K R av kv G' c n1 n2 n3 T1 m f wr k x tg w' → KT (Act.mk #[.pointer (some ⟨mb, 0, none⟩), .int .i64 c,u0,u1, av,u2,u3, .pointer (some ⟨w.heap.size, 0, none⟩), .pointer (some ⟨w.heap.size + 1, 0, none⟩),u4, .pointer (some
    ⟨w.heap.size + 2, 0, none⟩), .slice (some ⟨w.heap.size + 3, 0, none⟩) n2 n2, .pointer (some ⟨w.heap.size + 4, 0, none⟩), .func (.func 47) #[] #[.pointer (some ⟨w.heap.size + 4, 0,
    none⟩)], .int .i64 (k : Int), .pointer (some ⟨wr.heap.size, 0, none⟩), .int .i64 tg,u5,u6,u7,u8,u9,ua,ub,uc,ud,ue,uf,ug,uh,ui,uj,uk,ul,um,un,
    uo,up,uq,ur,us,ut, .int .i64 14,uu,uv,uw,ux,uy,uz,ua0,ua1,ua2,ua3,ua4,ua5,ua6,ua7,ua8,ua9,uaa,uab,uac,uad,uae,uaf,uag,uah,uai,uaj,uak,
    ual,uam,uan,uao,uap,uaq,uar,uas,uat,uau,uav,uaw,uax,uay,uaz,ub0,ub1,ub2,ub3,ub4,ub5,ub6,ub7,ub8,ub9,uba,ubb,ubc,ubd,ube,ubf,ubg,ubh,ubi,ubj,
    ubk,ubl,ubm,ubn,ubo,ubp,ubq,ubr,ubs,ubt,ubu,ubv,ubw,ubx,uby,ubz,uc0,uc1,uc2,uc3,uc4,uc5,uc6,uc7,uc8,uc9,uca,ucb,ucc,ucd,
    uce,ucf,ucg,uch,uci,ucj,uck,ucl,ucm,ucn,uco,ucp,ucq,ucr,ucs,uct,ucu,ucv,ucw,ucx,ucy,ucz,ud0,ud1,ud2,ud3,ud4,ud5,ud6,ud7,
    ud8,ud9,uda,udb,udc,udd,ude,udf,udg,udh,udi,udj,udk,udl,udm,udn,udo,udp,udq,udr,uds,udt,udu,udv,udw,udx,udy,udz,ue0,ue1,
    ue2,ue3,ue4,ue5,ue6,ue7,ue8,ue9,uea,ueb,uec,ued,uee,uef,ueg,ueh,uei,uej,uek,uel,uem,uen,ueo,uep,ueq,uer,ues,uet,ueu,uev,
    uew,uex,uey,uez,uf0,uf1,uf2,uf3,uf4,uf5,uf6,uf7,uf8,uf9,ufa,ufb,ufc,ufd,ufe,uff,ufg,ufh,ufi,ufj,ufk,ufl,ufm,ufn,ufo,ufp,
    ufq,ufr,ufs,uft,ufu,ufv,ufw,ufx,ufy,ufz,ug0,ug1,ug2,ug3,ug4,ug5,ug6,ug7,ug8,ug9,uga,ugb,ugc,ugd,uge,ugf,ugg,ugh,ugi,ugj,
    ugk,ugl,ugm,ugn,ugo,ugp,ugq,ugr,ugs,ugt,ugu,ugv,ugw,ugx,ugy,ugz,uh0,uh1,uh2,uh3] []) w')
    {K9 : Act → World → Prop} (hK9 : ∀ a w', Code.wp Try.prog sd46 (Exit.inBlock 2 (Exit.then KT (Exit.inBlock 1 (Exit.then K2 (Exit.inBlock 0 (Exit.then K3 (bodyPost Try.prog Try.f37 fun e w' => RePost p T w mb (20 - (d : Int)) K R e w'))))))) a w' → K9 a w') :
    Code.wp Try.prog reg45 (Exit.then K9 (Exit.inBlock 2 (Exit.then KT (Exit.inBlock 1 (Exit.then K2 (Exit.inBlock 0 (Exit.then K3 (bodyPost Try.prog Try.f37 fun e w' => RePost p T w mb (20 - (d : Int)) K R e w')))))))) (Act.mk #[.pointer (some ⟨mb, 0, none⟩), .int .i64 c,u0,u1, av,u2,u3, .pointer (some ⟨w.heap.size, 0, none⟩), .pointer (some ⟨w.heap.size + 1, 0, none⟩),u4, .pointer (some
    ⟨w.heap.size + 2, 0, none⟩), .slice (some ⟨w.heap.size + 3, 0, none⟩) n2 n2, .pointer (some ⟨w.heap.size + 4, 0, none⟩), .func (.func 47) #[] #[.pointer (some ⟨w.heap.size + 4, 0,
    none⟩)], .int .i64 (k : Int), .pointer (some ⟨wr.heap.size, 0, none⟩), .int .i64 ((k : Int) + 1),u5,u6, asv, .pointer (some ⟨xb, 0, none⟩), .int .i64 kl,ua,ub,uc,ud,
    ue,uf,ug,uh,ui,uj,uk,ul,um,un,uo,up,uq,ur,us,ut, .int .i64 14,uu,uv,uw,ux,uy,uz,ua0,ua1,ua2,ua3,ua4,ua5,ua6,ua7,ua8,ua9,uaa,
    uab,uac,uad,uae,uaf,uag,uah,uai,uaj,uak,ual,uam,uan,uao,uap,uaq,uar,uas,uat,uau,uav,uaw,uax,uay,uaz,ub0,ub1,ub2,ub3,ub4,ub5,ub6,ub7,ub8,ub9,uba,
    ubb,ubc,ubd,ube,ubf,ubg,ubh,ubi,ubj,ubk,ubl,ubm,ubn,ubo,ubp,ubq,ubr,ubs,ubt,ubu,ubv,ubw,ubx,uby,ubz,uc0,uc1,uc2,uc3,uc4,uc5,
    uc6,uc7,uc8,uc9,uca,ucb,ucc,ucd,uce,ucf,ucg,uch,uci,ucj,uck,ucl,ucm,ucn,uco,ucp,ucq,ucr,ucs,uct,ucu,ucv,ucw,ucx,ucy,ucz,
    ud0,ud1,ud2,ud3,ud4,ud5,ud6,ud7,ud8,ud9,uda,udb,udc,udd,ude,udf,udg,udh,udi,udj,udk,udl,udm,udn,udo,udp,udq,udr,uds,udt,
    udu,udv,udw,udx,udy,udz,ue0,ue1,ue2,ue3,ue4,ue5,ue6,ue7,ue8,ue9,uea,ueb,uec,ued,uee,uef,ueg,ueh,uei,uej,uek,uel,uem,uen,
    ueo,uep,ueq,uer,ues,uet,ueu,uev,uew,uex,uey,uez,uf0,uf1,uf2,uf3,uf4,uf5,uf6,uf7,uf8,uf9,ufa,ufb,ufc,ufd,ufe,uff,ufg,ufh,
    ufi,ufj,ufk,ufl,ufm,ufn,ufo,ufp,ufq,ufr,ufs,uft,ufu,ufv,ufw,ufx,ufy,ufz,ug0,ug1,ug2,ug3,ug4,ug5,ug6,ug7,ug8,ug9,uga,ugb,
    ugc,ugd,uge,ugf,ugg,ugh,ugi,ugj,ugk,ugl,ugm,ugn,ugo,ugp,ugq,ugr,ugs,ugt,ugu,ugv,ugw,ugx,ugy,ugz,uh0,uh1,uh2,uh3] []) V := by
  obtain ⟨hX, hEn, HR0, HG0, HX0, HMa0, HF0, hscap, HL0, hbel, hxb, ⟨aa, ca, rfl, hca⟩, ht40, HI0⟩ := H
  have HR := hid HR0
  have HG := hid HG0
  have HX := hid HX0
  have HL := hid HL0
  have HI := hid HI0
  have HOP := hid hop
  have HEn := hid hEn
  have HE := hid hE
  have HKp := hid hKp
  have HB := hid hB
  obtain ⟨hsc1, hsc2⟩ := hscap
  have HN := hid (And.intro hna (And.intro hlen (And.intro hxv hkl)))
  have hfw : f.stack.length ≤ 12 := HX0.few
  have hp5 := hB.fr.pos
  have hnl : nn + 1 + na ≤ 12 := by omega
  have hcl : f.cls = c := HL0.1
  obtain ⟨hI0, hW0, hFo0, hPl0⟩ := HI0
  have hSv : ∀ r, entE p.E d { m with st := m.st ++ [(⟨c, f.meth.name, (k : Int)⟩, kl)] } (findE p.X.classes kl x.name).1 (findE p.X.classes kl x.name).2 xv (f.stack.drop (nn + 1)) = r → Hid (mstepE (entE p.E d) p.E d m { f with pc := f.pc + 1 } f.pc x = if r.2.2 ≠ 0 then (r.1, { f with pc := f.pc + 1 }, r.2.2) else (r.1, { f with pc := f.pc + 1, stack := f.stack.take nn ++ [r.2.1] }, 0)) := fun r hr => send_val HX0 hop hPl0.fast hcl hna hlen hxv hkl hr
  have HSv := hid hSv
  have hm4 : MIn p.E { m with st := m.st ++ [(⟨c, f.meth.name, (k : Int)⟩, kl)] } := ⟨hI0.heap, hI0.sends, hI0.turns⟩
  have hfew4 : Few1 { m with st := m.st ++ [(⟨c, f.meth.name, (k : Int)⟩, kl)] } := by
    unfold Few1; unfold Few at hW0; simp only [List.length_append, List.length_cons, List.length_nil]; omega
  have hws : wrongV m.heap.length xv = 0 := hFo0.stack _ (List.mem_of_getElem? hxv)
  have hwa : VsOk m.heap.length (f.stack.drop (nn + 1)) := fun v hv => hFo0.stack v (List.mem_of_mem_drop hv)
  have HM4 := hid (And.intro hm4 (And.intro hfew4 (And.intro hws hwa)))
  clear HR0 HG0 HX0 HMa0 HF0 HL0 hop hbel hEn hE hKp hI0 hW0 hFo0 hPl0 hna hlen hxv hkl hcl hSv hm4 hfew4 hws hwa hxb
  unfold reg45
  unfold sd46 at hK9
  obtain ⟨ac, cc, hcv, -⟩ := id hB.mac.cls
  obtain ⟨ah, ch, rfl, -⟩ := id hB.mac.heap
  have hSl : ∀ w', Below V.heap.size V w' → w'.cell? ⟨mb, 0, none⟩ = some (.slice ac p.X.classes.length cc) ∧ w'.cell? ⟨mb, 1, none⟩ = some (.slice ah m.heap.length ch) ∧ w'.cell? ⟨mb, 2, none⟩ = some (.int .i64 p.X.epoch) ∧ w'.cell? ⟨wr.heap.size, 4, none⟩ = some (.string x.name) := fun w' hb => ⟨by rw [← hcv]; exact cell_later hb hB.mac.c0, cell_later hb hB.mac.c1, cell_later hb hB.mac.c2, cell_later hb hB.nm⟩
  have hS0 := hSl _ (Below.refl _ V).drew
  refine wp_region_late (S := fun w' => w'.cell? ⟨mb, 0, none⟩ = some (.slice ac p.X.classes.length cc) ∧ w'.cell? ⟨mb, 1, none⟩ = some (.slice ah m.heap.length ch) ∧ w'.cell? ⟨mb, 2, none⟩ = some (.int .i64 p.X.epoch) ∧ w'.cell? ⟨wr.heap.size, 4, none⟩ = some (.string x.name)) [] (by kernel_rfl) ?_
  refine wpAnyM_take (i := 0) (oi := ⟨some 238, .move (.tmp 0), 37, "ref.go:112", #[], none⟩) (v := .pointer (some ⟨mb, 0, none⟩)) (by kernel_rfl) (by kernel_rfl) rfl (by kernel_rfl) (by kernel_rfl) (by kernel_rfl) (fun _ _ _ h => h) (Or.inl ⟨by rfl, ?_⟩) (hS0) ?_
  · intro w hSw
    obtain ⟨q0, q1, q2, q3⟩ := hSw
    go_simp
  try simp only [Act.put, List.setIfInBounds_toArray, List.set_cons_zero, List.set_cons_succ]
  refine wpAnyM_take (i := 1) (oi := ⟨some 239, .nilCheck (.tmp 238), 0, "ref.go:112", #[⟨0,.data⟩], none⟩) (v := .pointer (some ⟨mb, 0, none⟩)) (by kernel_rfl) (by kernel_rfl) rfl (by kernel_rfl) (by kernel_rfl) (by kernel_rfl) (fun _ _ _ h => h) (Or.inl ⟨by rfl, ?_⟩) (hS0) ?_
  · intro w hSw
    obtain ⟨q0, q1, q2, q3⟩ := hSw
    go_simp
  try simp only [Act.put, List.setIfInBounds_toArray, List.set_cons_zero, List.set_cons_succ]
  refine wpAnyM_take (i := 2) (oi := ⟨some 240, .fieldAddr 68 (.tmp 239) 0, 0, "ref.go:112", #[⟨1,.data⟩], none⟩) (v := .pointer (some ⟨mb, 0, none⟩)) (by kernel_rfl) (by kernel_rfl) rfl (by kernel_rfl) (by kernel_rfl) (by kernel_rfl) (fun _ _ _ h => h) (Or.inl ⟨by rfl, ?_⟩) (hS0) ?_
  · intro w hSw
    obtain ⟨q0, q1, q2, q3⟩ := hSw
    go_simp
  try simp only [Act.put, List.setIfInBounds_toArray, List.set_cons_zero, List.set_cons_succ]
  refine wpAnyM_take (i := 3) (oi := ⟨some 241, .load 25 (.tmp 240), 25, "ref.go:112", #[⟨2,.data⟩], none⟩) (v := WV (.slice ac p.X.classes.length cc) (.slice ah m.heap.length ch) p.X.epoch) (by kernel_rfl) (by kernel_rfl) rfl (by kernel_rfl) (by kernel_rfl) (by kernel_rfl) (fun _ _ _ h => h) (Or.inl ⟨by rfl, ?_⟩) (hS0) ?_
  · intro w hSw
    obtain ⟨q0, q1, q2, q3⟩ := hSw
    go_simp
  try simp only [Act.put, List.setIfInBounds_toArray, List.set_cons_zero, List.set_cons_succ]
  refine wpAnyM_take (i := 4) (oi := ⟨some 242, .move (.tmp 21), 3, "ref.go:112", #[], none⟩) (v := .int .i64 kl) (by kernel_rfl) (by kernel_rfl) rfl (by kernel_rfl) (by kernel_rfl) (by kernel_rfl) (fun _ _ _ h => h) (Or.inl ⟨by rfl, ?_⟩) (hS0) ?_
  · intro w hSw
    obtain ⟨q0, q1, q2, q3⟩ := hSw
    go_simp
  try simp only [Act.put, List.setIfInBounds_toArray, List.set_cons_zero, List.set_cons_succ]
  refine wpAnyM_take (i := 5) (oi := ⟨some 243, .fieldAddr 81 (.tmp 15) 4, 0, "ref.go:112", #[], none⟩) (v := .pointer (some ⟨wr.heap.size, 4, none⟩)) (by kernel_rfl) (by kernel_rfl) rfl (by kernel_rfl) (by kernel_rfl) (by kernel_rfl) (fun _ _ _ h => h) (Or.inl ⟨by rfl, ?_⟩) (hS0) ?_
  · intro w hSw
    obtain ⟨q0, q1, q2, q3⟩ := hSw
    go_simp
  try simp only [Act.put, List.setIfInBounds_toArray, List.set_cons_zero, List.set_cons_succ]
  refine wpAnyM_take (i := 6) (oi := ⟨some 244, .load 9 (.tmp 243), 9, "ref.go:112", #[⟨5,.data⟩], none⟩) (v := .string x.name) (by kernel_rfl) (by kernel_rfl) rfl (by kernel_rfl) (by kernel_rfl) (by kernel_rfl) (fun _ _ _ h => h) (Or.inl ⟨by rfl, ?_⟩) (hS0) ?_
  · intro w hSw
    obtain ⟨q0, q1, q2, q3⟩ := hSw
    go_simp
  try simp only [Act.put, List.setIfInBounds_toArray, List.set_cons_zero, List.set_cons_succ]
  refine wpAnyM_ready (rs := [7]) (by kernel_rfl) (by simp) ?_
  intro i hi
  simp only [List.mem_cons, List.not_mem_nil, or_false] at hi
  subst hi
  refine stepM (o := ⟨some 245, .call ⟨.value (.func 22), #[.tmp 241, .tmp 242, .tmp 244], #[25, 3, 9]⟩, 69, "ref.go:112", #[⟨3,.data⟩,⟨4,.data⟩,⟨6,.data⟩], none⟩) rfl (fun K' hK => ?_)
  refine step_call rfl 22 (.func 22) #[.tmp 241, .tmp 242, .tmp 244] _ rfl #[] rfl #[WV (.slice ac p.X.classes.length cc) (.slice ah m.heap.length ch) p.X.epoch, .int .i64 kl, .string x.name] (by simp [Act.eval, Act.put]) (cf22 _ _) ?_
  refine (show Calls Try.prog 22 #[WV (.slice ac p.X.classes.length cc) (.slice ah m.heap.length ch) p.X.epoch, .int .i64 kl, .string x.name] V.drew _ from (rfind_any ⟨p.X.classes, m.heap, p.X.epoch⟩ kl x.name _ _ V.drew (by rw [← hcv]; exact (hB.mac.cls.later goodC (Below.refl _ V).drew)) (hB.mac.heap.later goodO (Below.refl _ V).drew)).mono ?_)
  rintro e w1 ⟨rfl, hbF⟩
  refine ⟨_, rfl, ?_⟩
  refine hK _ _ (fun _ => hSl _ (nstep (Below.refl _ V).drew hbF)) ?_
  clear hK K'
  try simp only [Act.put, List.setIfInBounds_toArray, List.set_cons_zero, List.set_cons_succ]
  refine wpAnyM_take (i := 8) (oi := ⟨some 237, .move (.tmp 245), 69, "ref.go:112", #[⟨7,.data⟩], none⟩) (v := .tuple #[.int .i64 (findE p.X.classes kl x.name).1, .int .i64 (findE p.X.classes kl x.name).2]) (by kernel_rfl) (by kernel_rfl) rfl (by kernel_rfl) (by kernel_rfl) (by kernel_rfl) (fun _ _ _ h => h) (Or.inl ⟨by rfl, ?_⟩) (hSl _ (nstep (Below.refl _ V).drew hbF)) ?_
  · intro w hSw
    obtain ⟨q0, q1, q2, q3⟩ := hSw
    go_simp
  try simp only [Act.put, List.setIfInBounds_toArray, List.set_cons_zero, List.set_cons_succ]
  refine wpAnyM_take (i := 9) (oi := ⟨some 246, .extract (.tmp 237) 0, 3, "ref.go:112", #[⟨8,.data⟩], none⟩) (v := .int .i64 (findE p.X.classes kl x.name).1) (by kernel_rfl) (by kernel_rfl) rfl (by kernel_rfl) (by kernel_rfl) (by kernel_rfl) (fun _ _ _ h => h) (Or.inl ⟨by rfl, ?_⟩) (hSl _ (nstep (Below.refl _ V).drew hbF)) ?_
  · intro w hSw
    obtain ⟨q0, q1, q2, q3⟩ := hSw
    go_simp
  try simp only [Act.put, List.setIfInBounds_toArray, List.set_cons_zero, List.set_cons_succ]
  refine wpAnyM_take (i := 10) (oi := ⟨some 247, .extract (.tmp 237) 1, 3, "ref.go:112", #[⟨8,.data⟩,⟨11, .gcOnly .lateStores⟩], none⟩) (v := .int .i64 (findE p.X.classes kl x.name).2) (by kernel_rfl) (by kernel_rfl) rfl (by kernel_rfl) (by kernel_rfl) (by kernel_rfl) (fun _ _ _ h => h) (Or.inl ⟨by rfl, ?_⟩) (hSl _ (nstep (Below.refl _ V).drew hbF)) ?_
  · intro w hSw
    obtain ⟨q0, q1, q2, q3⟩ := hSw
    go_simp
  try simp only [Act.put, List.setIfInBounds_toArray, List.set_cons_zero, List.set_cons_succ]
  refine wpAnyM_take (i := 11) (oi := ⟨some 22, .assign (.tmp 246), 3, "ref.go:112", #[⟨9,.data⟩,⟨7,.chain⟩,⟨0,.phase⟩,⟨1,.phase⟩,⟨2,.phase⟩,⟨3,.phase⟩,⟨4,.phase⟩,⟨5,.phase⟩,⟨6,.phase⟩,⟨7,.phase⟩,⟨8,.phase⟩,⟨9,.phase⟩,⟨10, .textOnly .lateStores⟩], none⟩) (v := .int .i64 (findE p.X.classes kl x.name).1) (by kernel_rfl) (by kernel_rfl) rfl (by kernel_rfl) (by kernel_rfl) (by kernel_rfl) (fun _ _ _ h => h) (Or.inl ⟨by rfl, ?_⟩) (hSl _ (nstep (Below.refl _ V).drew hbF)) ?_
  · intro w hSw
    obtain ⟨q0, q1, q2, q3⟩ := hSw
    go_simp
  try simp only [Act.put, List.setIfInBounds_toArray, List.set_cons_zero, List.set_cons_succ]
  refine wpAnyM_take (i := 12) (oi := ⟨some 23, .assign (.tmp 247), 3, "ref.go:112", #[⟨10,.data⟩,⟨11,.chain⟩,⟨0,.phase⟩,⟨1,.phase⟩,⟨2,.phase⟩,⟨3,.phase⟩,⟨4,.phase⟩,⟨5,.phase⟩,⟨6,.phase⟩,⟨7,.phase⟩,⟨8,.phase⟩,⟨9,.phase⟩,⟨10,.phase⟩,⟨11,.phase⟩], none⟩) (v := .int .i64 (findE p.X.classes kl x.name).2) (by kernel_rfl) (by kernel_rfl) rfl (by kernel_rfl) (by kernel_rfl) (by kernel_rfl) (fun _ _ _ h => h) (Or.inl ⟨by rfl, ?_⟩) (hSl _ (nstep (Below.refl _ V).drew hbF)) ?_
  · intro w hSw
    obtain ⟨q0, q1, q2, q3⟩ := hSw
    go_simp
  try simp only [Act.put, List.setIfInBounds_toArray, List.set_cons_zero, List.set_cons_succ]
  refine wpAnyM_done (by kernel_rfl) ?_ _
  try simp only [Act.put, List.setIfInBounds_toArray, List.set_cons_zero, List.set_cons_succ]

  have hbV : Below V.heap.size V w1 := nstep (Below.refl _ V).drew hbF
  have hB1 := hB.later hbV
  have HKp1 : Hid (Kp (All K) T1 wr w1) := HKp.out.on hbV
  clear hB HB HKp hSl hS0 hbF hbV
  by_cases hj : 0 ≤ (findE p.X.classes kl x.name).2
  · obtain ⟨mt, hmt⟩ := find_meth hj
    have hj' : ¬ ((findE p.X.classes kl x.name).2 < 0) := by omega
    have hjd : decide ((findE p.X.classes kl x.name).2 < 0) = false := by simpa using hj'
    generalize hR5 : entE p.E d { m with st := m.st ++ [(⟨c, f.meth.name, (k : Int)⟩, kl)] } (findE p.X.classes kl x.name).1 (findE p.X.classes kl x.name).2 xv (f.stack.drop (nn + 1)) = r
    have HV := HSv.out r hR5
    have HMt := hid hmt
    have HR5 := hid hR5
    generalize hfc : (findE p.X.classes kl x.name).1 = fc at *
    generalize hfj : (findE p.X.classes kl x.name).2 = fj at *
    clear hmt hR5 hfc hfj HSv
    go_upto_region 48 with (fail)
    have hSl : ∀ w', Below w1.heap.size w1 w' → w'.cell? ⟨w.heap.size + 4, 0, none⟩ = some (.slice sa nn sc) ∧ w'.cell? ⟨xb, 0, none⟩ = some (.int .i64 xv.k) ∧ w'.cell? ⟨xb, 1, none⟩ = some (.int .i64 xv.n) := fun w' hb => ⟨cell_later hb hB1.fr.st, cell_later hb hB1.x0, cell_later hb hB1.x1⟩
    have hS0 := hSl _ (Below.refl _ w1).drew
    refine wp_region_late (S := fun w' => w'.cell? ⟨w.heap.size + 4, 0, none⟩ = some (.slice sa nn sc) ∧ w'.cell? ⟨xb, 0, none⟩ = some (.int .i64 xv.k) ∧ w'.cell? ⟨xb, 1, none⟩ = some (.int .i64 xv.n)) [9] (by kernel_rfl) ?_
    refine wpAnyM_take (i := 0) (oi := ⟨some 253, .load 28 (.tmp 12), 28, "ref.go:117", #[], none⟩) (v := .slice sa nn sc) (by kernel_rfl) (by kernel_rfl) rfl (by kernel_rfl) (by kernel_rfl) (by kernel_rfl) (fun _ _ _ h => h) (Or.inl ⟨by rfl, ?_⟩) (hS0) ?_
    · intro w hSw
      obtain ⟨q0, q1, q2⟩ := hSw
      go_simp
    try simp only [Act.put, List.setIfInBounds_toArray, List.set_cons_zero, List.set_cons_succ]
    refine wpAnyM_take (i := 1) (oi := ⟨some 254, .move (.tmp 0), 37, "ref.go:117", #[], none⟩) (v := .pointer (some ⟨mb, 0, none⟩)) (by kernel_rfl) (by kernel_rfl) rfl (by kernel_rfl) (by kernel_rfl) (by kernel_rfl) (fun _ _ _ h => h) (Or.inl ⟨by rfl, ?_⟩) (hS0) ?_
    · intro w hSw
      obtain ⟨q0, q1, q2⟩ := hSw
      go_simp
    try simp only [Act.put, List.setIfInBounds_toArray, List.set_cons_zero, List.set_cons_succ]
    refine wpAnyM_take (i := 2) (oi := ⟨some 255, .move (.tmp 22), 3, "ref.go:117", #[], none⟩) (v := .int .i64 fc) (by kernel_rfl) (by kernel_rfl) rfl (by kernel_rfl) (by kernel_rfl) (by kernel_rfl) (fun _ _ _ h => h) (Or.inl ⟨by rfl, ?_⟩) (hS0) ?_
    · intro w hSw
      obtain ⟨q0, q1, q2⟩ := hSw
      go_simp
    try simp only [Act.put, List.setIfInBounds_toArray, List.set_cons_zero, List.set_cons_succ]
    refine wpAnyM_take (i := 3) (oi := ⟨some 256, .move (.tmp 23), 3, "ref.go:117", #[], none⟩) (v := .int .i64 fj) (by kernel_rfl) (by kernel_rfl) rfl (by kernel_rfl) (by kernel_rfl) (by kernel_rfl) (fun _ _ _ h => h) (Or.inl ⟨by rfl, ?_⟩) (hS0) ?_
    · intro w hSw
      obtain ⟨q0, q1, q2⟩ := hSw
      go_simp
    try simp only [Act.put, List.setIfInBounds_toArray, List.set_cons_zero, List.set_cons_succ]
    refine wpAnyM_take (i := 4) (oi := ⟨some 257, .load 27 (.tmp 20), 27, "ref.go:117", #[], none⟩) (v := VV xv) (by kernel_rfl) (by kernel_rfl) rfl (by kernel_rfl) (by kernel_rfl) (by kernel_rfl) (fun _ _ _ h => h) (Or.inl ⟨by rfl, ?_⟩) (hS0) ?_
    · intro w hSw
      obtain ⟨q0, q1, q2⟩ := hSw
      go_simp
    try simp only [Act.put, List.setIfInBounds_toArray, List.set_cons_zero, List.set_cons_succ]
    refine wpAnyM_take (i := 5) (oi := ⟨some 258, .move (.tmp 19), 28, "ref.go:117", #[], none⟩) (v := asv) (by kernel_rfl) (by kernel_rfl) rfl (by kernel_rfl) (by kernel_rfl) (by kernel_rfl) (fun _ _ _ h => h) (Or.inl ⟨by rfl, ?_⟩) (hS0) ?_
    · intro w hSw
      obtain ⟨q0, q1, q2⟩ := hSw
      go_simp
    try simp only [Act.put, List.setIfInBounds_toArray, List.set_cons_zero, List.set_cons_succ]
    refine wpAnyM_ready (rs := [6]) (by kernel_rfl) (by simp) ?_
    intro i hi
    simp only [List.mem_cons, List.not_mem_nil, or_false] at hi
    subst hi
    refine stepM (o := ⟨some 259, .call ⟨.value (.func 24), #[.tmp 254, .tmp 255, .tmp 256, .tmp 257, .tmp 258], #[37, 3, 3, 27, 28]⟩, 27, "ref.go:117", #[⟨1,.data⟩,⟨2,.data⟩,⟨3,.data⟩,⟨4,.data⟩,⟨5,.data⟩], none⟩) rfl (fun K' hK => ?_)
    have hB1d := hB1.later (Below.refl _ w1).drew
    refine step_call rfl 24 (.func 24) #[.tmp 254, .tmp 255, .tmp 256, .tmp 257, .tmp 258] _ rfl #[] rfl #[.pointer (some ⟨mb, 0, none⟩), .int .i64 fc, .int .i64 fj, VV xv, asv] (by simp [Act.eval, Act.put]) (cf24 _ _) ?_
    refine (show Calls Try.prog 24 #[.pointer (some ⟨mb, 0, none⟩), .int .i64 fc, .int .i64 fj, VV xv, asv] w1.drew _ from (HEn.out (K + 3) T4 w1.drew mb _ _ _ _ fc fj xv _ asv mt (by omega) hB1d.mac HM4.out.1 HM4.out.2.1 HM4.out.2.2.1 HM4.out.2.2.2 hB1d.args HMt.out).mono ?_)
    rw [HR5.out]
    rintro e w5 ⟨rfl, ⟨T5, hv5, sv5, ov5, hE5, hM5⟩, hK5⟩
    refine ⟨_, rfl, ?_⟩
    replace hK5 : Kp (All (K + 3)) T4 w1 w5 := (Kp.of_below (Below.refl _ w1).drew).trans (.refl _ _) hK5
    replace hE5 : Ext T4 T5 w1 := hE5
    have hB5 := hB1.keep (T' := T5) hE5 hK5 (by unfold All; omega) (by unfold All; omega) (by unfold All; omega) (by unfold All; omega) (by unfold All; omega) hM5
    have hF5 := hB5.fr
    have hSl5 : ∀ w', Below w5.heap.size w5 w' → w'.cell? ⟨w.heap.size + 4, 0, none⟩ = some (.slice sa nn sc) ∧ w'.cell? ⟨xb, 0, none⟩ = some (.int .i64 xv.k) ∧ w'.cell? ⟨xb, 1, none⟩ = some (.int .i64 xv.n) := fun w' hb => ⟨cell_later hb hF5.st, cell_later hb hB5.x0, cell_later hb hB5.x1⟩
    refine hK _ _ (fun _ => hSl5 _ (Below.refl _ w5)) ?_
    clear hK K'
    try simp only [Act.put, List.setIfInBounds_toArray, List.set_cons_zero, List.set_cons_succ]
    refine wpAnyM_ready (rs := [7]) (by kernel_rfl) (by simp) ?_
    intro i hi
    simp only [List.mem_cons, List.not_mem_nil, or_false] at hi
    subst hi
    refine stepM (o := ⟨some 260, .buildSlice 28 1 #[(0, .tmp 259)], 28, "ref.go:117", #[⟨6,.data⟩], none⟩) rfl (fun K' hK => ?_)
    go_simp
    refine hK _ _ (fun _ => hSl5 _ (bel1 _ _)) ?_
    clear hK K'
    try simp only [Act.put, List.setIfInBounds_toArray, List.set_cons_zero, List.set_cons_succ]
    refine wpAnyM_ready (rs := [8]) (by kernel_rfl) (by simp) ?_
    intro i hi
    simp only [List.mem_cons, List.not_mem_nil, or_false] at hi
    subst hi
    refine stepM (o := ⟨some 261, .call ⟨.builtin .append, #[.tmp 253, .tmp 260], #[28, 28]⟩, 28, "ref.go:117", #[⟨0,.data⟩,⟨7,.data⟩,⟨6,.chain⟩], none⟩) rfl (fun K' hK => ?_)
    have hst : ownsAt (w5.alloc (.cells #[.int .i64 r.2.1.k, .int .i64 r.2.1.n] 27)) 0 27 2 (.slice sa nn sc) nn (vcells (f.stack.take nn)) := by
      have := hF5.stack.alloc (.cells #[.int .i64 r.2.1.k, .int .i64 r.2.1.n] 27)
      rw [show ({ f with stack := f.stack.take nn } : Fr).stack.length = nn from by show (f.stack.take nn).length = nn; rw [List.length_take]; have := HN.out.2.1; omega] at this
      exact this
    obtain ⟨v', w', hrun, r1, r2, r3, r4⟩ := run_append_at (w := w5.alloc (.cells #[.int .i64 r.2.1.k, .int .i64 r.2.1.n] 27)) 28 28 27 _ 2 16 Try.underlying28 info27 rfl (by omega) 0 nn (.slice sa nn sc) (vcells (f.stack.take nn)) hst w5.heap.size [.int .i64 r.2.1.k, .int .i64 r.2.1.n] rfl (heap_alloc_new w5 _) (by intro u hu; simp only [List.mem_cons, List.not_mem_nil, or_false] at hu; rcases hu with h | h <;> (subst h; rfl)) (by unfold maxLen; omega) (by omega) (by omega)
    obtain ⟨a', cap', rfl, -⟩ := r1.form
    obtain ⟨d0, df⟩ := push_box hF5 (bel1 _ _) r4
    refine step_append_run rfl (.tmp 253) (.tmp 260) 28 rfl (.slice sa nn sc) (.slice (some ⟨w5.heap.size, 0, none⟩) 1 1) (.slice a' (nn + 1) cap') (by simp [Act.eval, Act.put]) (by simp [Act.eval, Act.put]) hrun ?_
    have tx5 : T5 xb = 0 := hB5.tx
    have hSa : w'.cell? ⟨w.heap.size + 4, 0, none⟩ = some (.slice sa nn sc) ∧ w'.cell? ⟨xb, 0, none⟩ = some (.int .i64 xv.k) ∧ w'.cell? ⟨xb, 1, none⟩ = some (.int .i64 xv.n) := by
      obtain ⟨z0, z1, z2⟩ := hSl5 _ (bel1 w5 (.cells #[.int .i64 r.2.1.k, .int .i64 r.2.1.n] 27))
      exact ⟨d0, app_cell hF5 r4 (fun _ => by rw [tx5]; omega) z1, app_cell hF5 r4 (fun _ => by rw [tx5]; omega) z2⟩
    refine hK _ _ (fun _ => hSa) ?_
    clear hK K'
    try simp only [Act.put, List.setIfInBounds_toArray, List.set_cons_zero, List.set_cons_succ]
    refine wpAnyM_ready (rs := [9]) (by kernel_rfl) (by simp) ?_
    intro i hi
    simp only [List.mem_cons, List.not_mem_nil, or_false] at hi
    subst hi
    refine stepM (o := ⟨none, .store 28 (.tmp 12) (.tmp 261), 0, "ref.go:117", #[⟨8,.data⟩,⟨8,.chain⟩,⟨0,.phase⟩,⟨1,.phase⟩,⟨2,.phase⟩,⟨3,.phase⟩,⟨4,.phase⟩,⟨5,.phase⟩,⟨6,.phase⟩,⟨7,.phase⟩,⟨8,.phase⟩], none⟩) rfl (fun K' hK => ?_)
    go_simp
    refine hK _ _ (fun h => absurd h (by decide)) ?_
    clear hK K'
    try simp only [Act.put, List.setIfInBounds_toArray, List.set_cons_zero, List.set_cons_succ]
    refine wpAnyM_done (by kernel_rfl) ?_ _
    try simp only [Act.put, List.setIfInBounds_toArray, List.set_cons_zero, List.set_cons_succ]

    have hll : (f.stack.take nn ++ [r.2.1]).length = nn + 1 := by have := HN.out.2.1; simp [List.length_take]; omega
    obtain ⟨⟨T6, g1, g2⟩, g3⟩ := hF5.pushed (vs := [r.2.1]) (bel1 _ _) (by simp; omega) (by show ownsAt w' 0 27 2 _ (f.stack.take nn ++ [r.2.1]).length _; rw [hll]; simpa [vcells] using r1) r2 r3 r4
    have hM6 := hM5.keep g1 g3 (by omega) (by omega) (by omega) (by omega)
    have hE6 : Ext T1 T6 wr := HE.out.trans HKp1.out.size (hE5.trans hK5.size g1)
    have hK6 : Kp (All K) T1 wr _ := HKp1.out.trans HE.out ((kpAll hK5 fun t ht => by unfold All at ht; omega).trans hE5 (kpAll g3 fun t ht => by omega))
    have G2 := hid g2
    have HM6 := hid hM6
    have HE6 := hid hE6
    have HK6 := hid hK6
    clear g1 g2 g3 hM6 hE6 hK6 r1 r2 r3 r4 hF5 hM5 hE5 hK5 hB5 hSl5 d0 df hB1
    go_wp2
    exact Or.inl ⟨rfl, send_end hX HR.out HG.out HX.out HOP.out HL.out HV.out HE6.out HK6.out HM6.out (fun _ => G2.out)⟩
  · have hj' : (findE p.X.classes kl x.name).2 < 0 := by omega
    have HV := HSv.out _ (ent_none hj)
    have c7 := hB1.mac.c7
    have cf7 := row_free hB1.mac.box
    have HN7 := hid (hB1.mac.num7 10)
    have HT7 := hid hB1.mac.tag
    have HK7 : Hid (Kp (All K) T1 wr (w1.setCell ⟨mb, 7, none⟩ (.int .i64 10))) := HKp1.out.trans HE.out ((kp1 hB1.mac 7 (.int .i64 10)).mono fun t h => Or.inl h)
    clear hB1 HSv hj
    go_wp2
    exact Or.inl ⟨rfl, send_end (r := ({ m with st := m.st ++ [(⟨c, f.meth.name, (k : Int)⟩, kl)] }, nilV, 10)) (st := .slice none 0 0) hX HR.out HG.out HX.out HOP.out HL.out HV.out HE.out HK7.out HN7.out (fun h => absurd (show (10 : Int) = 0 from h) (by decide))⟩
end Go.Proofs.Ytfdonemehiamjaa
/- Body's switch: a send, its middle: the cut, the class, sites. -/
namespace Go.Proofs.Ytfdonemehiamjaa
open Go.ChangeShapes Go.WideShapes Go.ChangeAt Go.RowKit
set_option linter.unusedSimpArgs false
set_option linter.unusedVariables false
set_option maxRecDepth 100000

theorem wpAnyM_true {P : Program} {md : Region.Mode} {ops : Array Oper} {Q : Exit → Act → World → Prop} {S : World → Prop} {late late' : List Nat} : ∀ (fuel : Nat) (listed : Array Bool) (a : Act) (w : World), wpAnyM P md ops Q S late fuel listed a w → wpAnyM P md ops Q (fun _ => True) late' fuel listed a w
  | 0, _, _, _, h => h
  | fuel + 1, _, _, _, h => ⟨h.1, fun i hi => wpOp_mono (fun a' w' h' => ⟨fun _ => trivial, wpAnyM_true fuel _ a' w' h'.2⟩) (h.2 i hi)⟩
theorem info92 : (Try.prog.info? 92).map (fun i => (i.zero, i.size, i.bytes)) = some (some (.agg #[.int .i64 0, .string ⟨#[]⟩, .int .i64 0]), 3, 32) := by kernel_rfl
section
variable {p : Rp} {d : Nat} {mb K B : Nat} {T : Nat → Nat} {U wz w12 w18 w19 : World} {m : Mc RSt} {err : Int} {f : Fr} {av kv st hv : Value} {a8 a9 : Option Addr} {n8 n9 p8 p9 : Nat}
theorem sd_blk (h : RMac p T U mb m (20 - (d : Int)) err hv (.slice a8 n8 p8) (.slice a9 n9 p9)) (hbz : Below U.heap.size U wz) (r4 : ∀ b, b < wz.heap.size → some b ≠ (Value.slice a8 n8 p8).ownBlock → w12.heap[b]? = wz.heap[b]?) {b : Nat} (hb : b < U.heap.size) (ht : T b ≠ 2) : w12.heap[b]? = U.heap[b]? := by
  have hs := hbz.size
  rw [r4 b (by omega) (fun e => ht (h.stag b e.symm)), hbz.block b hb]
theorem sd_blk2 (h : RMac p T U mb m (20 - (d : Int)) err hv (.slice a8 n8 p8) (.slice a9 n9 p9)) (hbz : Below U.heap.size U wz) (r4 : ∀ b, b < wz.heap.size → some b ≠ (Value.slice a8 n8 p8).ownBlock → w12.heap[b]? = wz.heap[b]?) (hb18 : Below w12.heap.size w12 w18) (hz : wz.heap.size ≤ w12.heap.size) (s4 : ∀ b, b < w18.heap.size → some b ≠ (Value.slice a9 n9 p9).ownBlock → w19.heap[b]? = w18.heap[b]?) {b : Nat} (hb : b < U.heap.size) (ht : T b ≠ 2) (ht3 : T b ≠ 3) : w19.heap[b]? = U.heap[b]? := by
  have hs := hbz.size
  have hs2 := hb18.size
  rw [s4 b (by omega) (fun e => ht3 (h.otag b e.symm)), hb18.block b (by omega), sd_blk h hbz r4 hb ht]
theorem cell_blk {w w' : World} {b o : Nat} {v : Value} (e : w'.heap[b]? = w.heap[b]?) (h : w.cell? ⟨b, o, none⟩ = some v) : w'.cell? ⟨b, o, none⟩ = some v := by
  unfold World.cell? at h ⊢; rw [e]; exact h
theorem sd_app (h : RMac p T U mb m (20 - (d : Int)) err hv (.slice a8 n8 p8) (.slice a9 n9 p9)) (hF : RF T K U B f av kv st) (hbz : Below U.heap.size U wz) (r4 : ∀ b, b < wz.heap.size → some b ≠ (Value.slice a8 n8 p8).ownBlock → w12.heap[b]? = wz.heap[b]?) : w12.cell? ⟨mb, 8, none⟩ = some (.slice a8 n8 p8) ∧ w12.cell? ⟨mb, 9, none⟩ = some (.slice a9 n9 p9) ∧ w12.cell? ⟨B, 0, none⟩ = some (.string f.meth.name) := by
  have e1 := sd_blk h hbz r4 (blk_lt h.box) (by rw [h.tag]; omega)
  exact ⟨cell_blk e1 h.c8, cell_blk e1 h.c9, cell_blk (sd_blk h hbz r4 (blk_lt hF.m0) (by rw [hF.tB]; omega)) hF.k0⟩
theorem sd_app2 (h : RMac p T U mb m (20 - (d : Int)) err hv (.slice a8 n8 p8) (.slice a9 n9 p9)) (hF : RF T K U B f av kv st) (hbz : Below U.heap.size U wz) (r4 : ∀ b, b < wz.heap.size → some b ≠ (Value.slice a8 n8 p8).ownBlock → w12.heap[b]? = wz.heap[b]?) (hb18 : Below w12.heap.size w12 w18) (hz : wz.heap.size ≤ w12.heap.size) (s4 : ∀ b, b < w18.heap.size → some b ≠ (Value.slice a9 n9 p9).ownBlock → w19.heap[b]? = w18.heap[b]?) : w19.cell? ⟨mb, 8, none⟩ = some (.slice a8 n8 p8) ∧ w19.cell? ⟨mb, 9, none⟩ = some (.slice a9 n9 p9) ∧ w19.cell? ⟨B, 0, none⟩ = some (.string f.meth.name) := by
  have e1 := sd_blk2 h hbz r4 hb18 hz s4 (blk_lt h.box) (by rw [h.tag]; omega) (by rw [h.tag]; omega)
  exact ⟨cell_blk e1 h.c8, cell_blk e1 h.c9, cell_blk (sd_blk2 h hbz r4 hb18 hz s4 (blk_lt hF.m0) (by rw [hF.tB]; omega) (by rw [hF.tB]; omega)) hF.k0⟩
theorem sd_free (h : RMac p T U mb m (20 - (d : Int)) err hv (.slice a8 n8 p8) (.slice a9 n9 p9)) (hbz : Below U.heap.size U wz) (r4 : ∀ b, b < wz.heap.size → some b ≠ (Value.slice a8 n8 p8).ownBlock → w12.heap[b]? = wz.heap[b]?) (hb18 : Below w12.heap.size w12 w18) (hz : wz.heap.size ≤ w12.heap.size) (s4 : ∀ b, b < w18.heap.size → some b ≠ (Value.slice a9 n9 p9).ownBlock → w19.heap[b]? = w18.heap[b]?) : ∀ o, w19.frozen? ⟨mb, o, none⟩ = false :=
  row_free (by rw [sd_blk2 h hbz r4 hb18 hz s4 (blk_lt h.box) (by rw [h.tag]; omega) (by rw [h.tag]; omega)]; exact h.box)
theorem sd_al {w : World} {o : Obj} {b : Nat} {x y z : Value} (h : w.cell? ⟨mb, 8, none⟩ = some x ∧ w.cell? ⟨mb, 9, none⟩ = some y ∧ w.cell? ⟨b, 0, none⟩ = some z) : (w.alloc o).cell? ⟨mb, 8, none⟩ = some x ∧ (w.alloc o).cell? ⟨mb, 9, none⟩ = some y ∧ (w.alloc o).cell? ⟨b, 0, none⟩ = some z := ⟨cell_later (bel1 _ _) h.1, cell_later (bel1 _ _) h.2.1, cell_later (bel1 _ _) h.2.2⟩
theorem sd_box (h : RMac p T U mb m (20 - (d : Int)) err hv (.slice a8 n8 p8) (.slice a9 n9 p9)) (hbz : Below U.heap.size U wz) (r4 : ∀ b, b < wz.heap.size → some b ≠ (Value.slice a8 n8 p8).ownBlock → w12.heap[b]? = wz.heap[b]?) {b : Nat} {o : Obj} (hb : wz.heap[b]? = some o) (hl : U.heap.size ≤ b) : w12.heap[b]? = some o := by
  rw [r4 b (blk_lt hb) (fun e => by have := (h.sites.lt b e.symm).2; omega)]; exact hb
end

set_option maxHeartbeats 8000000 in
theorem br14b {p : Rp} {d : Nat} {T T1 : Nat → Nat} {w wr W : World} {mb K : Nat} {R : Mc RSt × QV × Int} {av kv : Value} {gk G' : Nat} {m : Mc RSt} {f : Fr} {c : Int} {n1 n2 n3 k : Nat} {x : QI} {hv sv ov : Value} {sa : Option Addr} {sc : Nat} (H : SwC p d T w mb K R av kv gk G' c n1 n2 n3 T1 m f wr W k x hv sv ov sa sc) (hop : x.op = 14)
    {V : World} {nn na xb : Nat} {xv : QV} {asv : Value} (hA : SdA wr V f x nn na xb asv xv)
    {u0 u1 u2 u3 u4 u5 u9 ua ub uc ud ue uf ug uh ui uj uk ul um un uo up uq ur us ut uu uv uw ux uy uz ua0 ua1 ua2 ua3 ua4 ua5 ua6 ua7 ua8 ua9 uaa uab uac
    uad uae uaf uag uah uai uaj uak ual uam uan uao uap uaq uar uas uat uau uav uaw uax uay uaz ub0 ub1 ub2 ub3 ub4 ub5 ub6 ub7 ub8 ub9 uba ubb ubc ubd ube ubf ubg ubh ubi ubj ubk
    ubl ubm ubn ubo ubp ubq ubr ubs ubt ubu ubv ubw ubx uby ubz uc0 uc1 uc2 uc3 uc4 uc5 uc6 uc7 uc8 uc9 uca ucb ucc ucd uce ucf ucg uch uci ucj uck
    ucl ucm ucn uco ucp ucq ucr ucs uct ucu ucv ucw ucx ucy ucz ud0 ud1 ud2 ud3 ud4 ud5 ud6 ud7 ud8 ud9 uda udb udc udd ude udf udg udh udi udj udk
    udl udm udn udo udp udq udr uds udt udu udv udw udx udy udz ue0 ue1 ue2 ue3 ue4 ue5 ue6 ue7 ue8 ue9 uea ueb uec ued uee uef ueg ueh uei uej uek
    uel uem uen ueo uep ueq uer ues uet ueu uev uew uex uey uez uf0 uf1 uf2 uf3 uf4 uf5 uf6 uf7 uf8 uf9 ufa ufb ufc ufd ufe uff ufg ufh ufi ufj ufk
    ufl ufm ufn ufo ufp ufq ufr ufs uft ufu ufv ufw ufx ufy ufz ug0 ug1 ug2 ug3 ug4 ug5 ug6 ug7 ug8 ug9 uga ugb ugc ugd uge ugf ugg ugh ugi ugj ugk
    ugl ugm ugn ugo ugp ugq ugr ugs ugt ugu ugv ugw ugx ugy ugz uh0 uh1 uh2 uh3 : Value}
    {KT K2 K3 : Act → World → Prop}
    (hN : ∀ (u5 u6 u7 u8 u9 ua ub uc uu uv uw ux uy uz ua0 ua1 ua2 ua3 ua4 ua5 ua6 ua7 ua8 ua9 uaa uab uac uad uae uaf uag uah uai uaj uak ual uam uan uao uap uaq uar uas uat uau
    uav uaw uax uay uaz ub0 ub1 ub2 ub3 ub4 ub5 ub6 ub7 ub8 ub9 uba ubb ubc ubd ube ubf ubg ubh ubi ubj ubk ubl ubm ubn ubo ubp ubq ubr ubs ubt ubu ubv ubw ubx uby
    ubz uc0 uc1 uc2 uc3 uc4 uc5 uc6 uc7 uc8 uc9 uca ucb ucc ucd uce ucf ucg uch uci ucj uck ucl ucm ucn uco ucp ucq ucr ucs uct ucu ucv ucw ucx ucy
    ucz ud0 ud1 ud2 ud3 ud4 ud5 ud6 ud7 ud8 ud9 uda udb udc udd ude udf udg udh udi udj udk udl udm udn udo udp udq udr uds udt udu udv udw udx udy
    udz ue0 ue1 ue2 ue3 ue4 ue5 ue6 ue7 ue8 ue9 uea ueb uec ued uee uef ueg ueh uei uej uek uel uem uen ueo uep ueq uer ues uet ueu uev uew uex uey
    uez uf0 uf1 uf2 uf3 uf4 uf5 uf6 uf7 uf8 uf9 ufa ufb ufc ufd ufe uff ufg ufh ufi ufj ufk ufl ufm ufn ufo ufp ufq ufr ufs uft ufu ufv ufw ufx ufy
    ufz ug0 ug1 ug2 ug3 ug4 ug5 ug6 ug7 ug8 ug9 uga ugb ugc ugd uge ugf ugg ugh ugi ugj : Value) (tg : Int) (w' : World), SwOk p d T w mb K R av kv G' c n1 n2 n3 T1 m f wr k x tg w' → KT (Act.mk #[.pointer (some ⟨mb, 0, none⟩), .int .i64 c,u0,u1, av,u2,u3, .pointer (some ⟨w.heap.size, 0, none⟩), .pointer (some ⟨w.heap.size + 1, 0, none⟩),u4, .pointer (some
    ⟨w.heap.size + 2, 0, none⟩), .slice (some ⟨w.heap.size + 3, 0, none⟩) n2 n2, .pointer (some ⟨w.heap.size + 4, 0, none⟩), .func (.func 47) #[] #[.pointer (some ⟨w.heap.size + 4, 0,
    none⟩)], .int .i64 (k : Int), .pointer (some ⟨wr.heap.size, 0, none⟩), .int .i64 tg,u5,u6,u7,u8,u9,ua,ub,uc,ud,ue,uf,ug,uh,ui,uj,uk,ul,um,un,
    uo,up,uq,ur,us,ut, .int .i64 14,uu,uv,uw,ux,uy,uz,ua0,ua1,ua2,ua3,ua4,ua5,ua6,ua7,ua8,ua9,uaa,uab,uac,uad,uae,uaf,uag,uah,uai,uaj,uak,
    ual,uam,uan,uao,uap,uaq,uar,uas,uat,uau,uav,uaw,uax,uay,uaz,ub0,ub1,ub2,ub3,ub4,ub5,ub6,ub7,ub8,ub9,uba,ubb,ubc,ubd,ube,ubf,ubg,ubh,ubi,ubj,
    ubk,ubl,ubm,ubn,ubo,ubp,ubq,ubr,ubs,ubt,ubu,ubv,ubw,ubx,uby,ubz,uc0,uc1,uc2,uc3,uc4,uc5,uc6,uc7,uc8,uc9,uca,ucb,ucc,ucd,
    uce,ucf,ucg,uch,uci,ucj,uck,ucl,ucm,ucn,uco,ucp,ucq,ucr,ucs,uct,ucu,ucv,ucw,ucx,ucy,ucz,ud0,ud1,ud2,ud3,ud4,ud5,ud6,ud7,
    ud8,ud9,uda,udb,udc,udd,ude,udf,udg,udh,udi,udj,udk,udl,udm,udn,udo,udp,udq,udr,uds,udt,udu,udv,udw,udx,udy,udz,ue0,ue1,
    ue2,ue3,ue4,ue5,ue6,ue7,ue8,ue9,uea,ueb,uec,ued,uee,uef,ueg,ueh,uei,uej,uek,uel,uem,uen,ueo,uep,ueq,uer,ues,uet,ueu,uev,
    uew,uex,uey,uez,uf0,uf1,uf2,uf3,uf4,uf5,uf6,uf7,uf8,uf9,ufa,ufb,ufc,ufd,ufe,uff,ufg,ufh,ufi,ufj,ufk,ufl,ufm,ufn,ufo,ufp,
    ufq,ufr,ufs,uft,ufu,ufv,ufw,ufx,ufy,ufz,ug0,ug1,ug2,ug3,ug4,ug5,ug6,ug7,ug8,ug9,uga,ugb,ugc,ugd,uge,ugf,ugg,ugh,ugi,ugj,
    ugk,ugl,ugm,ugn,ugo,ugp,ugq,ugr,ugs,ugt,ugu,ugv,ugw,ugx,ugy,ugz,uh0,uh1,uh2,uh3] []) w')
    {K9 : Act → World → Prop} (hK9 : ∀ a w', Code.wp Try.prog sd43 (Exit.inBlock 2 (Exit.then KT (Exit.inBlock 1 (Exit.then K2 (Exit.inBlock 0 (Exit.then K3 (bodyPost Try.prog Try.f37 fun e w' => RePost p T w mb (20 - (d : Int)) K R e w'))))))) a w' → K9 a w') :
    Code.wp Try.prog reg42 (Exit.then K9 (Exit.inBlock 2 (Exit.then KT (Exit.inBlock 1 (Exit.then K2 (Exit.inBlock 0 (Exit.then K3 (bodyPost Try.prog Try.f37 fun e w' => RePost p T w mb (20 - (d : Int)) K R e w')))))))) (Act.mk #[.pointer (some ⟨mb, 0, none⟩), .int .i64 c, u0, u1, av, u2, u3, .pointer (some ⟨w.heap.size, 0, none⟩), .pointer (some ⟨w.heap.size + 1, 0, none⟩), u4, .pointer (some
    ⟨w.heap.size + 2, 0, none⟩), .slice (some ⟨w.heap.size + 3, 0, none⟩) n2 n2, .pointer (some ⟨w.heap.size + 4, 0, none⟩), .func (.func 47) #[] #[.pointer (some ⟨w.heap.size + 4, 0,
    none⟩)], .int .i64 (k : Int), .pointer (some ⟨wr.heap.size, 0, none⟩), .int .i64 ((k : Int) + 1), u5, .int .i64 ((nn : Int) + 1), asv, .pointer (some ⟨xb, 0, none⟩), u9, ua, ub,
    uc, ud, ue, uf, ug, uh, ui, uj, uk, ul, um, un, uo, up, uq, ur, us, ut, .int .i64 14, uu, uv, uw, ux, uy, uz, ua0, ua1, ua2, ua3, ua4, ua5, ua6, ua7, ua8,
    ua9, uaa, uab, uac, uad, uae, uaf, uag, uah, uai, uaj, uak, ual, uam, uan, uao, uap, uaq, uar, uas, uat, uau, uav, uaw, uax, uay, uaz, ub0, ub1, ub2, ub3, ub4, ub5, ub6, ub7, ub8,
    ub9, uba, ubb, ubc, ubd, ube, ubf, ubg, ubh, ubi, ubj, ubk, ubl, ubm, ubn, ubo, ubp, ubq, ubr, ubs, ubt, ubu, ubv, ubw, ubx, uby, ubz, uc0, uc1, uc2, uc3,
    uc4, uc5, uc6, uc7, uc8, uc9, uca, ucb, ucc, ucd, uce, ucf, ucg, uch, uci, ucj, uck, ucl, ucm, ucn, uco, ucp, ucq, ucr, ucs, uct, ucu, ucv, ucw, ucx,
    ucy, ucz, ud0, ud1, ud2, ud3, ud4, ud5, ud6, ud7, ud8, ud9, uda, udb, udc, udd, ude, udf, udg, udh, udi, udj, udk, udl, udm, udn, udo, udp, udq, udr,
    uds, udt, udu, udv, udw, udx, udy, udz, ue0, ue1, ue2, ue3, ue4, ue5, ue6, ue7, ue8, ue9, uea, ueb, uec, ued, uee, uef, ueg, ueh, uei, uej, uek, uel,
    uem, uen, ueo, uep, ueq, uer, ues, uet, ueu, uev, uew, uex, uey, uez, uf0, uf1, uf2, uf3, uf4, uf5, uf6, uf7, uf8, uf9, ufa, ufb, ufc, ufd, ufe, uff,
    ufg, ufh, ufi, ufj, ufk, ufl, ufm, ufn, ufo, ufp, ufq, ufr, ufs, uft, ufu, ufv, ufw, ufx, ufy, ufz, ug0, ug1, ug2, ug3, ug4, ug5, ug6, ug7, ug8, ug9,
    uga, ugb, ugc, ugd, uge, ugf, ugg, ugh, ugi, ugj, ugk, ugl, ugm, ugn, ugo, ugp, ugq, ugr, ugs, ugt, ugu, ugv, ugw, ugx, ugy, ugz, uh0, uh1, uh2, uh3]
    []) V := by
  have HH := hid H
  obtain ⟨hX, hEn, HR0, HG0, HX0, HMa0, HF0, hscap, HL0, hbel, hxb, ⟨aa, ca, rfl, hca⟩, ht40, HI0⟩ := H
  have HOP := hid hop
  have HA := hid hA
  obtain ⟨hsc1, hsc2⟩ := hscap
  have hp5 := HF0.pos
  have hfw : f.stack.length ≤ 12 := HX0.few
  have hBl : w.heap.size + 4 < wr.heap.size := blk_lt HF0.sb
  have hlen := hA.len
  obtain ⟨hB0, hK0⟩ := sd42 HMa0 HF0 hA
  have hst : V.cell? ⟨w.heap.size + 4, 0, none⟩ = some (.slice sa f.stack.length sc) := (HF0.later hA.bel).st
  have hsf : ∀ o, V.frozen? ⟨w.heap.size + 4, o, none⟩ = false := (HF0.later hA.bel).sf
  have hwn : IntKind.i64.wrap (((nn + 1 : Nat) : Int) - 1) = (nn : Int) := by rw [wrap_of (by omega) (by omega)]; omega
  have hwn' : IntKind.i64.wrap (nn : Int) = (nn : Int) := wrap_of (by omega) (by omega)
  have HE1 : Hid (Ext T1 (tagged T1 wr 0) wr) := tagged_ext T1 wr 0
  have hst14 : m.st.length ≤ 500 := by
    have h1 := HI0.2.1; have h2 := HI0.1.sends; have h3 := hX.fuel
    unfold Few at h1
    have h4 : p.E.fuel = p.fuel := rfl
    omega
  generalize tagged T1 wr 0 = T2 at *
  have HB0 := hid hB0
  have HK0 : Hid (Kp (All K) T1 wr _) := kpAll hK0 fun t ht => by omega
  have HCL := hid HL0.1
  clear hB0 hK0 HR0 HG0 HX0 HMa0 HF0 HL0 HI0 hop hbel hEn hxb
  unfold reg42
  unfold sd43 at hK9
  go_upto_region 43 with (fail)
  generalize (V.setCell ⟨w.heap.size + 4, 0, none⟩ (.slice sa nn sc)) = V2 at *
  have hB := HB0.out
  obtain ⟨ah, ch, rfl, -⟩ := id hB.mac.heap
  have hSl : ∀ w', Below V2.heap.size V2 w' → w'.cell? ⟨mb, 1, none⟩ = some (.slice ah m.heap.length ch) ∧ w'.cell? ⟨xb, 0, none⟩ = some (.int .i64 xv.k) ∧ w'.cell? ⟨xb, 1, none⟩ = some (.int .i64 xv.n) := fun w' hb => ⟨cell_later hb hB.mac.c1, cell_later hb hB.x0, cell_later hb hB.x1⟩
  have hS0 := hSl _ (Below.refl _ V2).drew
  clear hst hsf
  refine wp_region_late (S := fun w' => w'.cell? ⟨mb, 1, none⟩ = some (.slice ah m.heap.length ch) ∧ w'.cell? ⟨xb, 0, none⟩ = some (.int .i64 xv.k) ∧ w'.cell? ⟨xb, 1, none⟩ = some (.int .i64 xv.n)) [] (by kernel_rfl) ?_
  refine wpAnyM_take (i := 0) (oi := ⟨some 206, .move (.tmp 0), 37, "ref.go:110", #[], none⟩) (v := .pointer (some ⟨mb, 0, none⟩)) (by kernel_rfl) (by kernel_rfl) rfl (by kernel_rfl) (by kernel_rfl) (by kernel_rfl) (fun _ _ _ h => h) (Or.inl ⟨by rfl, ?_⟩) (hS0) ?_
  · intro w hSw
    obtain ⟨q0, q1, q2⟩ := hSw
    go_simp
  try simp only [Act.put, List.setIfInBounds_toArray, List.set_cons_zero, List.set_cons_succ]
  refine wpAnyM_take (i := 1) (oi := ⟨some 207, .nilCheck (.tmp 206), 0, "ref.go:110", #[⟨0,.data⟩], none⟩) (v := .pointer (some ⟨mb, 0, none⟩)) (by kernel_rfl) (by kernel_rfl) rfl (by kernel_rfl) (by kernel_rfl) (by kernel_rfl) (fun _ _ _ h => h) (Or.inl ⟨by rfl, ?_⟩) (hS0) ?_
  · intro w hSw
    obtain ⟨q0, q1, q2⟩ := hSw
    go_simp
  try simp only [Act.put, List.setIfInBounds_toArray, List.set_cons_zero, List.set_cons_succ]
  refine wpAnyM_take (i := 2) (oi := ⟨some 208, .fieldAddr 68 (.tmp 207) 0, 0, "ref.go:110", #[⟨1,.data⟩], none⟩) (v := .pointer (some ⟨mb, 0, none⟩)) (by kernel_rfl) (by kernel_rfl) rfl (by kernel_rfl) (by kernel_rfl) (by kernel_rfl) (fun _ _ _ h => h) (Or.inl ⟨by rfl, ?_⟩) (hS0) ?_
  · intro w hSw
    obtain ⟨q0, q1, q2⟩ := hSw
    go_simp
  try simp only [Act.put, List.setIfInBounds_toArray, List.set_cons_zero, List.set_cons_succ]
  refine wpAnyM_take (i := 3) (oi := ⟨some 209, .fieldAddr 25 (.tmp 208) 1, 0, "ref.go:110", #[⟨2,.data⟩], none⟩) (v := .pointer (some ⟨mb, 1, none⟩)) (by kernel_rfl) (by kernel_rfl) rfl (by kernel_rfl) (by kernel_rfl) (by kernel_rfl) (fun _ _ _ h => h) (Or.inl ⟨by rfl, ?_⟩) (hS0) ?_
  · intro w hSw
    obtain ⟨q0, q1, q2⟩ := hSw
    go_simp
  try simp only [Act.put, List.setIfInBounds_toArray, List.set_cons_zero, List.set_cons_succ]
  refine wpAnyM_take (i := 4) (oi := ⟨some 210, .load 23 (.tmp 209), 23, "ref.go:110", #[⟨3,.data⟩], none⟩) (v := .slice ah m.heap.length ch) (by kernel_rfl) (by kernel_rfl) rfl (by kernel_rfl) (by kernel_rfl) (by kernel_rfl) (fun _ _ _ h => h) (Or.inl ⟨by rfl, ?_⟩) (hS0) ?_
  · intro w hSw
    obtain ⟨q0, q1, q2⟩ := hSw
    go_simp
  try simp only [Act.put, List.setIfInBounds_toArray, List.set_cons_zero, List.set_cons_succ]
  refine wpAnyM_take (i := 5) (oi := ⟨some 211, .load 27 (.tmp 20), 27, "ref.go:110", #[], none⟩) (v := VV xv) (by kernel_rfl) (by kernel_rfl) rfl (by kernel_rfl) (by kernel_rfl) (by kernel_rfl) (fun _ _ _ h => h) (Or.inl ⟨by rfl, ?_⟩) (hS0) ?_
  · intro w hSw
    obtain ⟨q0, q1, q2⟩ := hSw
    go_simp
  try simp only [Act.put, List.setIfInBounds_toArray, List.set_cons_zero, List.set_cons_succ]
  refine wpAnyM_ready (rs := [6]) (by kernel_rfl) (by simp) ?_
  intro i hi
  simp only [List.mem_cons, List.not_mem_nil, or_false] at hi
  subst hi
  refine stepM (o := ⟨some 212, .call ⟨.value (.func 23), #[.tmp 210, .tmp 211], #[23, 27]⟩, 3, "ref.go:110", #[⟨4,.data⟩,⟨5,.data⟩], none⟩) rfl (fun K' hK => ?_)
  refine step_call rfl 23 (.func 23) #[.tmp 210, .tmp 211] _ rfl #[] rfl #[.slice ah m.heap.length ch, VV xv] (by simp [Act.eval, Act.put]) (cf23 _ _) ?_
  refine (show Calls Try.prog 23 #[.slice ah m.heap.length ch, VV xv] V2.drew _ from (rclass_any m.heap _ xv V2.drew (hB.mac.heap.later goodO (Below.refl _ V2).drew)).mono ?_)
  rintro e U ⟨rfl, hbC⟩
  refine ⟨_, rfl, ?_⟩
  have hbU : Below V2.heap.size V2 U := nstep (Below.refl _ V2).drew hbC
  obtain ⟨kl, HKL⟩ : ∃ kl, Hid (classV m.heap xv = kl) := ⟨_, rfl⟩
  rw [HKL.out]
  refine hK _ _ (fun _ => hSl _ hbU) ?_
  clear hK K'
  try simp only [Act.put, List.setIfInBounds_toArray, List.set_cons_zero, List.set_cons_succ]
  refine wpAnyM_take (i := 7) (oi := ⟨some 21, .assign (.tmp 212), 3, "ref.go:110", #[⟨6,.data⟩,⟨6,.chain⟩,⟨0,.phase⟩,⟨1,.phase⟩,⟨2,.phase⟩,⟨3,.phase⟩,⟨4,.phase⟩,⟨5,.phase⟩,⟨6,.phase⟩], none⟩) (v := .int .i64 kl) (by kernel_rfl) (by kernel_rfl) rfl (by kernel_rfl) (by kernel_rfl) (by kernel_rfl) (fun _ _ _ h => h) (Or.inl ⟨by rfl, ?_⟩) (hSl _ hbU) ?_
  · intro w hSw
    obtain ⟨q0, q1, q2⟩ := hSw
    go_simp
  try simp only [Act.put, List.setIfInBounds_toArray, List.set_cons_zero, List.set_cons_succ]
  refine wpAnyM_done (by kernel_rfl) ?_ _
  try simp only [Act.put, List.setIfInBounds_toArray, List.set_cons_zero, List.set_cons_succ]

  replace hB := hB.later hbU
  have HKp1 : Hid (Kp (All K) T1 wr U) := HK0.out.on hbU
  clear hSl hS0 hbU HB0 HK0
  obtain ⟨a8, p8, rfl, hp8, hp8'⟩ := hB.mac.sites.form
  obtain ⟨a9, p9, rfl, hp9, hp9'⟩ := hB.mac.of.form
  unfold maxLen at hp8' hp9'
  have hSl : ∀ w', Below U.heap.size U w' → w'.cell? ⟨mb, 8, none⟩ = some (.slice a8 m.st.length p8) ∧ w'.cell? ⟨mb, 9, none⟩ = some (.slice a9 m.st.length p9) ∧ w'.cell? ⟨w.heap.size, 0, none⟩ = some (.string f.meth.name) := fun w' hb => ⟨cell_later hb hB.mac.c8, cell_later hb hB.mac.c9, cell_later hb hB.fr.k0⟩
  have hS0 := hSl _ (Below.refl _ U).drew
  go_upto_region 44 with (fail)
  refine wp_region_late (S := fun _ => True) [] (by kernel_rfl) ?_
  refine wpAnyM_take (i := 1) (oi := ⟨some 214, .move (.tmp 0), 37, "ref.go:111", #[⟨22, .gcOnly .lateStores⟩], none⟩) (v := .pointer (some ⟨mb, 0, none⟩)) (by kernel_rfl) (by kernel_rfl) rfl (by kernel_rfl) (by kernel_rfl) (by kernel_rfl) (fun _ _ _ h => h) (Or.inl ⟨by rfl, ?_⟩) (trivial) ?_
  · intro w hSw
    obtain _h := hSw
    go_simp
  try simp only [Act.put, List.setIfInBounds_toArray, List.set_cons_zero, List.set_cons_succ]
  refine wpAnyM_true (S := fun w' => w'.cell? ⟨mb, 8, none⟩ = some (.slice a8 m.st.length p8) ∧ w'.cell? ⟨mb, 9, none⟩ = some (.slice a9 m.st.length p9) ∧ w'.cell? ⟨w.heap.size, 0, none⟩ = some (.string f.meth.name)) (late := [22, 23, 24, 25]) _ _ _ _ ?_
  refine wpAnyM_take (i := 0) (oi := ⟨some 213, .move (.tmp 0), 37, "ref.go:111", #[], none⟩) (v := .pointer (some ⟨mb, 0, none⟩)) (by kernel_rfl) (by kernel_rfl) rfl (by kernel_rfl) (by kernel_rfl) (by kernel_rfl) (fun _ _ _ h => h) (Or.inl ⟨by rfl, ?_⟩) (hS0) ?_
  · intro w hSw
    obtain ⟨q0, q1, q2⟩ := hSw
    go_simp
  try simp only [Act.put, List.setIfInBounds_toArray, List.set_cons_zero, List.set_cons_succ]
  refine wpAnyM_take (i := 2) (oi := ⟨some 215, .move (.tmp 0), 37, "ref.go:111", #[], none⟩) (v := .pointer (some ⟨mb, 0, none⟩)) (by kernel_rfl) (by kernel_rfl) rfl (by kernel_rfl) (by kernel_rfl) (by kernel_rfl) (fun _ _ _ h => h) (Or.inl ⟨by rfl, ?_⟩) (hS0) ?_
  · intro w hSw
    obtain ⟨q0, q1, q2⟩ := hSw
    go_simp
  try simp only [Act.put, List.setIfInBounds_toArray, List.set_cons_zero, List.set_cons_succ]
  refine wpAnyM_take (i := 3) (oi := ⟨some 216, .nilCheck (.tmp 215), 0, "ref.go:111", #[⟨2,.data⟩], none⟩) (v := .pointer (some ⟨mb, 0, none⟩)) (by kernel_rfl) (by kernel_rfl) rfl (by kernel_rfl) (by kernel_rfl) (by kernel_rfl) (fun _ _ _ h => h) (Or.inl ⟨by rfl, ?_⟩) (hS0) ?_
  · intro w hSw
    obtain ⟨q0, q1, q2⟩ := hSw
    go_simp
  try simp only [Act.put, List.setIfInBounds_toArray, List.set_cons_zero, List.set_cons_succ]
  refine wpAnyM_take (i := 4) (oi := ⟨some 217, .fieldAddr 68 (.tmp 216) 6, 0, "ref.go:111", #[⟨3,.data⟩], none⟩) (v := .pointer (some ⟨mb, 8, none⟩)) (by kernel_rfl) (by kernel_rfl) rfl (by kernel_rfl) (by kernel_rfl) (by kernel_rfl) (fun _ _ _ h => h) (Or.inl ⟨by rfl, ?_⟩) (hS0) ?_
  · intro w hSw
    obtain ⟨q0, q1, q2⟩ := hSw
    go_simp
  try simp only [Act.put, List.setIfInBounds_toArray, List.set_cons_zero, List.set_cons_succ]
  refine wpAnyM_take (i := 5) (oi := ⟨some 218, .load 65 (.tmp 217), 65, "ref.go:111", #[⟨4,.data⟩], none⟩) (v := .slice a8 m.st.length p8) (by kernel_rfl) (by kernel_rfl) rfl (by kernel_rfl) (by kernel_rfl) (by kernel_rfl) (fun _ _ _ h => h) (Or.inl ⟨by rfl, ?_⟩) (hS0) ?_
  · intro w hSw
    obtain ⟨q0, q1, q2⟩ := hSw
    go_simp
  try simp only [Act.put, List.setIfInBounds_toArray, List.set_cons_zero, List.set_cons_succ]
  refine wpAnyM_take (i := 6) (oi := ⟨some 219, .move (.tmp 1), 3, "ref.go:111", #[], none⟩) (v := .int .i64 c) (by kernel_rfl) (by kernel_rfl) rfl (by kernel_rfl) (by kernel_rfl) (by kernel_rfl) (fun _ _ _ h => h) (Or.inl ⟨by rfl, ?_⟩) (hS0) ?_
  · intro w hSw
    obtain ⟨q0, q1, q2⟩ := hSw
    go_simp
  try simp only [Act.put, List.setIfInBounds_toArray, List.set_cons_zero, List.set_cons_succ]
  refine wpAnyM_take (i := 7) (oi := ⟨some 220, .fieldAddr 54 (.tmp 7) 0, 0, "ref.go:111", #[], none⟩) (v := .pointer (some ⟨w.heap.size, 0, none⟩)) (by kernel_rfl) (by kernel_rfl) rfl (by kernel_rfl) (by kernel_rfl) (by kernel_rfl) (fun _ _ _ h => h) (Or.inl ⟨by rfl, ?_⟩) (hS0) ?_
  · intro w hSw
    obtain ⟨q0, q1, q2⟩ := hSw
    go_simp
  try simp only [Act.put, List.setIfInBounds_toArray, List.set_cons_zero, List.set_cons_succ]
  refine wpAnyM_take (i := 8) (oi := ⟨some 221, .load 9 (.tmp 220), 9, "ref.go:111", #[⟨7,.data⟩], none⟩) (v := .string f.meth.name) (by kernel_rfl) (by kernel_rfl) rfl (by kernel_rfl) (by kernel_rfl) (by kernel_rfl) (fun _ _ _ h => h) (Or.inl ⟨by rfl, ?_⟩) (hS0) ?_
  · intro w hSw
    obtain ⟨q0, q1, q2⟩ := hSw
    go_simp
  try simp only [Act.put, List.setIfInBounds_toArray, List.set_cons_zero, List.set_cons_succ]
  refine wpAnyM_take (i := 9) (oi := ⟨some 222, .move (.tmp 14), 3, "ref.go:111", #[], none⟩) (v := .int .i64 (k : Int)) (by kernel_rfl) (by kernel_rfl) rfl (by kernel_rfl) (by kernel_rfl) (by kernel_rfl) (fun _ _ _ h => h) (Or.inl ⟨by rfl, ?_⟩) (hS0) ?_
  · intro w hSw
    obtain ⟨q0, q1, q2⟩ := hSw
    go_simp
  try simp only [Act.put, List.setIfInBounds_toArray, List.set_cons_zero, List.set_cons_succ]
  refine wpAnyM_take (i := 10) (oi := ⟨some 223, .build 92 #[(0, .tmp 219), (1, .tmp 221), (2, .tmp 222)], 92, "ref.go:111", #[⟨6,.data⟩,⟨8,.data⟩,⟨9,.data⟩], none⟩) (v := .agg #[.int .i64 c, .string f.meth.name, .int .i64 (k : Int)]) (by kernel_rfl) (by kernel_rfl) rfl (by kernel_rfl) (by kernel_rfl) (by kernel_rfl) (fun _ _ _ h => h) (Or.inl ⟨by rfl, ?_⟩) (hS0) ?_
  · intro w hSw
    obtain ⟨q0, q1, q2⟩ := hSw
    go_simp
  try simp only [Act.put, List.setIfInBounds_toArray, List.set_cons_zero, List.set_cons_succ]
  refine wpAnyM_take (i := 13) (oi := ⟨some 226, .move (.tmp 0), 37, "ref.go:111", #[], none⟩) (v := .pointer (some ⟨mb, 0, none⟩)) (by kernel_rfl) (by kernel_rfl) rfl (by kernel_rfl) (by kernel_rfl) (by kernel_rfl) (fun _ _ _ h => h) (Or.inl ⟨by rfl, ?_⟩) (hS0) ?_
  · intro w hSw
    obtain ⟨q0, q1, q2⟩ := hSw
    go_simp
  try simp only [Act.put, List.setIfInBounds_toArray, List.set_cons_zero, List.set_cons_succ]
  refine wpAnyM_take (i := 14) (oi := ⟨some 227, .nilCheck (.tmp 226), 0, "ref.go:111", #[⟨13,.data⟩], none⟩) (v := .pointer (some ⟨mb, 0, none⟩)) (by kernel_rfl) (by kernel_rfl) rfl (by kernel_rfl) (by kernel_rfl) (by kernel_rfl) (fun _ _ _ h => h) (Or.inl ⟨by rfl, ?_⟩) (hS0) ?_
  · intro w hSw
    obtain ⟨q0, q1, q2⟩ := hSw
    go_simp
  try simp only [Act.put, List.setIfInBounds_toArray, List.set_cons_zero, List.set_cons_succ]
  refine wpAnyM_take (i := 15) (oi := ⟨some 228, .fieldAddr 68 (.tmp 227) 7, 0, "ref.go:111", #[⟨14,.data⟩], none⟩) (v := .pointer (some ⟨mb, 9, none⟩)) (by kernel_rfl) (by kernel_rfl) rfl (by kernel_rfl) (by kernel_rfl) (by kernel_rfl) (fun _ _ _ h => h) (Or.inl ⟨by rfl, ?_⟩) (hS0) ?_
  · intro w hSw
    obtain ⟨q0, q1, q2⟩ := hSw
    go_simp
  try simp only [Act.put, List.setIfInBounds_toArray, List.set_cons_zero, List.set_cons_succ]
  refine wpAnyM_take (i := 16) (oi := ⟨some 229, .load 66 (.tmp 228), 66, "ref.go:111", #[⟨15,.data⟩], none⟩) (v := .slice a9 m.st.length p9) (by kernel_rfl) (by kernel_rfl) rfl (by kernel_rfl) (by kernel_rfl) (by kernel_rfl) (fun _ _ _ h => h) (Or.inl ⟨by rfl, ?_⟩) (hS0) ?_
  · intro w hSw
    obtain ⟨q0, q1, q2⟩ := hSw
    go_simp
  try simp only [Act.put, List.setIfInBounds_toArray, List.set_cons_zero, List.set_cons_succ]
  refine wpAnyM_take (i := 17) (oi := ⟨some 230, .move (.tmp 21), 3, "ref.go:111", #[], none⟩) (v := .int .i64 kl) (by kernel_rfl) (by kernel_rfl) rfl (by kernel_rfl) (by kernel_rfl) (by kernel_rfl) (fun _ _ _ h => h) (Or.inl ⟨by rfl, ?_⟩) (hS0) ?_
  · intro w hSw
    obtain ⟨q0, q1, q2⟩ := hSw
    go_simp
  try simp only [Act.put, List.setIfInBounds_toArray, List.set_cons_zero, List.set_cons_succ]
  refine wpAnyM_ready (rs := [11, 18]) (by kernel_rfl) (by simp) ?_
  intro i hi
  simp only [List.mem_cons, List.not_mem_nil, or_false] at hi
  rcases hi with hi | hi
  · subst hi
    refine stepM (o := ⟨some 224, .buildSlice 65 1 #[(0, .tmp 223)], 65, "ref.go:111", #[⟨10,.data⟩], none⟩) rfl (fun K' hK => ?_)
    have hbz : Below U.heap.size U (U.drew.alloc (.cells #[.int .i64 c, .string f.meth.name, .int .i64 (k : Int)] 92)) := nstep (Below.refl _ U).drew (bel1 _ _)
    go_simp
    refine hK _ _ (fun _ => hSl _ hbz) ?_
    clear hK K'
    try simp only [Act.put, List.setIfInBounds_toArray, List.set_cons_zero, List.set_cons_succ]
    refine wpAnyM_ready (rs := [12, 18]) (by kernel_rfl) (by simp) ?_
    intro i hi
    simp only [List.mem_cons, List.not_mem_nil, or_false] at hi
    rcases hi with hi | hi
    · subst hi
      refine stepM (o := ⟨some 225, .call ⟨.builtin .append, #[.tmp 218, .tmp 224], #[65, 65]⟩, 65, "ref.go:111", #[⟨5,.data⟩,⟨11,.data⟩], none⟩) rfl (fun K' hK => ?_)
      have hs12 : ownsAt ((U.drew.alloc (.cells #[.int .i64 c, .string f.meth.name, .int .i64 (k : Int)] 92))) 0 92 3 (.slice a8 m.st.length p8) m.st.length (scells m.st) := (hB.mac.later hbz).sites
      obtain ⟨v8, w12, hrun12, r1, r2, r3, r4⟩ := run_append_at (w := (U.drew.alloc (.cells #[.int .i64 c, .string f.meth.name, .int .i64 (k : Int)] 92))) 65 65 92 _ 3 32 Try.underlying65 info92 rfl (by omega) 0 m.st.length (.slice a8 m.st.length p8) (scells m.st) hs12 (U.drew.heap.size) [.int .i64 c, .string f.meth.name, .int .i64 (k : Int)] rfl (heap_alloc_new U.drew _) (by intro u hu; simp only [List.mem_cons, List.not_mem_nil, or_false] at hu; rcases hu with h | h | h <;> (subst h; rfl)) (by unfold maxLen; omega) (by omega) (by omega)
      obtain ⟨a8', p8', rfl, -⟩ := r1.form
      have hS12 : w12.cell? ⟨mb, 8, none⟩ = some (.slice a8 m.st.length p8) ∧ w12.cell? ⟨mb, 9, none⟩ = some (.slice a9 m.st.length p9) ∧ w12.cell? ⟨w.heap.size, 0, none⟩ = some (.string f.meth.name) := sd_app (f := { f with stack := f.stack.take nn }) hB.mac hB.fr hbz r4
      refine step_append_run rfl (.tmp 218) (.tmp 224) 65 rfl (.slice a8 m.st.length p8) (.slice (some ⟨U.drew.heap.size, 0, none⟩) 1 1) (.slice a8' (m.st.length + 1) p8') (by simp [Act.eval, Act.put]) (by simp [Act.eval, Act.put]) hrun12 ?_
      refine hK _ _ (fun _ => hS12) ?_
      clear hK K'
      try simp only [Act.put, List.setIfInBounds_toArray, List.set_cons_zero, List.set_cons_succ]
      refine wpAnyM_ready (rs := [18]) (by kernel_rfl) (by simp) ?_
      intro i hi
      simp only [List.mem_cons, List.not_mem_nil, or_false] at hi
      subst hi
      refine stepM (o := ⟨some 231, .buildSlice 66 1 #[(0, .tmp 230)], 66, "ref.go:111", #[⟨17,.data⟩], none⟩) rfl (fun K' hK => ?_)
      have hb18 : Below w12.heap.size w12 (w12.alloc (.cells #[.int .i64 kl] 3)) := bel1 _ _
      go_simp
      refine hK _ _ (fun _ => sd_al hS12) ?_
      clear hK K'
      try simp only [Act.put, List.setIfInBounds_toArray, List.set_cons_zero, List.set_cons_succ]
      refine wpAnyM_ready (rs := [19]) (by kernel_rfl) (by simp) ?_
      intro i hi
      simp only [List.mem_cons, List.not_mem_nil, or_false] at hi
      subst hi
      refine stepM (o := ⟨some 232, .call ⟨.builtin .append, #[.tmp 229, .tmp 231], #[66, 66]⟩, 66, "ref.go:111", #[⟨16,.data⟩,⟨18,.data⟩,⟨12,.chain⟩], none⟩) rfl (fun K' hK => ?_)
      have ho19 : ownsAt (w12.alloc (.cells #[.int .i64 kl] 3)) 0 3 1 (.slice a9 m.st.length p9) m.st.length (ocells m.st) := of_kept hB.mac hbz r4 hb18 r3.size
      obtain ⟨v9, w19, hrun19, s1, s2, s3, s4⟩ := run_append_at (w := w12.alloc (.cells #[.int .i64 kl] 3)) 66 66 3 _ 1 8 Try.underlying66 info3 rfl (by omega) 0 m.st.length (.slice a9 m.st.length p9) (ocells m.st) ho19 (w12.heap.size) [.int .i64 kl] rfl (heap_alloc_new w12 _) (by intro u hu; simp only [List.mem_cons, List.not_mem_nil, or_false] at hu; subst hu; rfl) (by unfold maxLen; omega) (by omega) (by omega)
      obtain ⟨a9', p9', rfl, -⟩ := s1.form
      obtain ⟨⟨T5, f1, f2⟩, f3⟩ := sites_fin (q := (⟨c, f.meth.name, (k : Int)⟩, kl)) hB.mac hbz r1 r2 r3 r4 hb18 s1 s2 s3 s4
      have hS19 : w19.cell? ⟨mb, 8, none⟩ = some (.slice a8 m.st.length p8) ∧ w19.cell? ⟨mb, 9, none⟩ = some (.slice a9 m.st.length p9) ∧ w19.cell? ⟨w.heap.size, 0, none⟩ = some (.string f.meth.name) := sd_app2 (f := { f with stack := f.stack.take nn }) hB.mac hB.fr hbz r4 hb18 r3.size s4
      have cf19 : ∀ o, w19.frozen? ⟨mb, o, none⟩ = false := sd_free hB.mac hbz r4 hb18 r3.size s4
      have c19 := hS19.1
      have c199 := hS19.2.1
      refine step_append_run rfl (.tmp 229) (.tmp 231) 66 rfl (.slice a9 m.st.length p9) (.slice (some ⟨w12.heap.size, 0, none⟩) 1 1) (.slice a9' (m.st.length + 1) p9') (by simp [Act.eval, Act.put]) (by simp [Act.eval, Act.put]) hrun19 ?_
      refine hK _ _ (fun _ => hS19) ?_
      clear hK K'
      try simp only [Act.put, List.setIfInBounds_toArray, List.set_cons_zero, List.set_cons_succ]
      refine wpAnyM_take (i := 20) (oi := ⟨some 233, .nilCheck (.tmp 213), 0, "ref.go:111", #[⟨0,.data⟩,⟨0,.phase⟩,⟨1, .textOnly .lateStores⟩,⟨2,.phase⟩,⟨3,.phase⟩,⟨4,.phase⟩,⟨5,.phase⟩,⟨6,.phase⟩,⟨7,.phase⟩,⟨8,.phase⟩,⟨9,.phase⟩,⟨10,.phase⟩,⟨11,.phase⟩,⟨12,.phase⟩,⟨13, .textOnly .lateStores⟩,⟨14, .textOnly .lateStoresUnsure⟩,⟨15, .textOnly .lateStoresUnsure⟩,⟨16,.phase⟩,⟨17, .textOnly .lateStores⟩,⟨18, .textOnly .lateStoresUnsure⟩,⟨19,.phase⟩], none⟩) (v := .pointer (some ⟨mb, 0, none⟩)) (by kernel_rfl) (by kernel_rfl) rfl (by kernel_rfl) (by kernel_rfl) (by kernel_rfl) (fun _ _ _ h => h) (Or.inl ⟨by rfl, ?_⟩) (hS19) ?_
      · intro w hSw
        obtain ⟨q0, q1, q2⟩ := hSw
        go_simp
      try simp only [Act.put, List.setIfInBounds_toArray, List.set_cons_zero, List.set_cons_succ]
      refine wpAnyM_take (i := 21) (oi := ⟨some 234, .fieldAddr 68 (.tmp 233) 6, 0, "ref.go:111", #[⟨20,.data⟩,⟨0,.phase⟩,⟨1, .textOnly .lateStores⟩,⟨2,.phase⟩,⟨3,.phase⟩,⟨4,.phase⟩,⟨5,.phase⟩,⟨6,.phase⟩,⟨7,.phase⟩,⟨8,.phase⟩,⟨9,.phase⟩,⟨10,.phase⟩,⟨11,.phase⟩,⟨12,.phase⟩,⟨13, .textOnly .lateStores⟩,⟨14, .textOnly .lateStoresUnsure⟩,⟨15, .textOnly .lateStoresUnsure⟩,⟨16,.phase⟩,⟨17, .textOnly .lateStores⟩,⟨18, .textOnly .lateStoresUnsure⟩,⟨19,.phase⟩], none⟩) (v := .pointer (some ⟨mb, 8, none⟩)) (by kernel_rfl) (by kernel_rfl) rfl (by kernel_rfl) (by kernel_rfl) (by kernel_rfl) (fun _ _ _ h => h) (Or.inl ⟨by rfl, ?_⟩) (hS19) ?_
      · intro w hSw
        obtain ⟨q0, q1, q2⟩ := hSw
        go_simp
      try simp only [Act.put, List.setIfInBounds_toArray, List.set_cons_zero, List.set_cons_succ]
      refine wpAnyM_ready (rs := [22]) (by kernel_rfl) (by simp) ?_
      intro i hi
      simp only [List.mem_cons, List.not_mem_nil, or_false] at hi
      subst hi
      refine stepM (o := ⟨none, .store 65 (.tmp 234) (.tmp 225), 0, "ref.go:111", #[⟨21,.data⟩,⟨12,.data⟩,⟨19,.chain⟩,⟨0,.phase⟩,⟨1, .textOnly .lateStores⟩,⟨2,.phase⟩,⟨3,.phase⟩,⟨4,.phase⟩,⟨5,.phase⟩,⟨6,.phase⟩,⟨7,.phase⟩,⟨8,.phase⟩,⟨9,.phase⟩,⟨10,.phase⟩,⟨11,.phase⟩,⟨12,.phase⟩,⟨13, .textOnly .lateStores⟩,⟨14, .textOnly .lateStoresUnsure⟩,⟨15, .textOnly .lateStoresUnsure⟩,⟨16,.phase⟩,⟨17, .textOnly .lateStores⟩,⟨18, .textOnly .lateStoresUnsure⟩,⟨19,.phase⟩], none⟩) rfl (fun K' hK => ?_)
      go_simp
      refine hK _ _ (fun h => absurd h (by decide)) ?_
      clear hK K'
      try simp only [Act.put, List.setIfInBounds_toArray, List.set_cons_zero, List.set_cons_succ]
      refine wpAnyM_only (S' := fun _ => True) (late' := []) (by kernel_rfl) ?_
      refine wpAnyM_take (i := 23) (oi := ⟨some 235, .nilCheck (.tmp 214), 0, "ref.go:111", #[⟨1,.data⟩,⟨0,.phase⟩,⟨1,.phase⟩,⟨2,.phase⟩,⟨3,.phase⟩,⟨4,.phase⟩,⟨5,.phase⟩,⟨6,.phase⟩,⟨7,.phase⟩,⟨8,.phase⟩,⟨9,.phase⟩,⟨10,.phase⟩,⟨11,.phase⟩,⟨12,.phase⟩,⟨13,.phase⟩,⟨14,.phase⟩,⟨15,.phase⟩,⟨16,.phase⟩,⟨17,.phase⟩,⟨18,.phase⟩,⟨19,.phase⟩,⟨20,.phase⟩,⟨21,.phase⟩,⟨22,.phase⟩], none⟩) (v := .pointer (some ⟨mb, 0, none⟩)) (by kernel_rfl) (by kernel_rfl) rfl (by kernel_rfl) (by kernel_rfl) (by kernel_rfl) (fun _ _ _ h => h) (Or.inl ⟨by rfl, ?_⟩) (trivial) ?_
      · intro w hSw
        obtain _h := hSw
        go_simp
      try simp only [Act.put, List.setIfInBounds_toArray, List.set_cons_zero, List.set_cons_succ]
      refine wpAnyM_take (i := 24) (oi := ⟨some 236, .fieldAddr 68 (.tmp 235) 7, 0, "ref.go:111", #[⟨23,.data⟩,⟨0,.phase⟩,⟨1,.phase⟩,⟨2,.phase⟩,⟨3,.phase⟩,⟨4,.phase⟩,⟨5,.phase⟩,⟨6,.phase⟩,⟨7,.phase⟩,⟨8,.phase⟩,⟨9,.phase⟩,⟨10,.phase⟩,⟨11,.phase⟩,⟨12,.phase⟩,⟨13,.phase⟩,⟨14,.phase⟩,⟨15,.phase⟩,⟨16,.phase⟩,⟨17,.phase⟩,⟨18,.phase⟩,⟨19,.phase⟩,⟨20,.phase⟩,⟨21,.phase⟩,⟨22,.phase⟩], none⟩) (v := .pointer (some ⟨mb, 9, none⟩)) (by kernel_rfl) (by kernel_rfl) rfl (by kernel_rfl) (by kernel_rfl) (by kernel_rfl) (fun _ _ _ h => h) (Or.inl ⟨by rfl, ?_⟩) (trivial) ?_
      · intro w hSw
        obtain _h := hSw
        go_simp
      try simp only [Act.put, List.setIfInBounds_toArray, List.set_cons_zero, List.set_cons_succ]
      refine wpAnyM_ready (rs := [25]) (by kernel_rfl) (by simp) ?_
      intro i hi
      simp only [List.mem_cons, List.not_mem_nil, or_false] at hi
      subst hi
      refine stepM (o := ⟨none, .store 66 (.tmp 236) (.tmp 232), 0, "ref.go:111", #[⟨24,.data⟩,⟨19,.data⟩,⟨22,.chain⟩,⟨0,.phase⟩,⟨1,.phase⟩,⟨2,.phase⟩,⟨3,.phase⟩,⟨4,.phase⟩,⟨5,.phase⟩,⟨6,.phase⟩,⟨7,.phase⟩,⟨8,.phase⟩,⟨9,.phase⟩,⟨10,.phase⟩,⟨11,.phase⟩,⟨12,.phase⟩,⟨13,.phase⟩,⟨14,.phase⟩,⟨15,.phase⟩,⟨16,.phase⟩,⟨17,.phase⟩,⟨18,.phase⟩,⟨19,.phase⟩,⟨20,.phase⟩,⟨21,.phase⟩,⟨22,.phase⟩], none⟩) rfl (fun K' hK => ?_)
      go_simp
      refine hK _ _ (fun _ => trivial) ?_
      clear hK K'
      try simp only [Act.put, List.setIfInBounds_toArray, List.set_cons_zero, List.set_cons_succ]
      refine wpAnyM_done (by kernel_rfl) ?_ _
      try simp only [Act.put, List.setIfInBounds_toArray, List.set_cons_zero, List.set_cons_succ]
      have hB5 := hB.keep (T' := T5) f1 f3 (by omega) (by omega) (by omega) (by omega) (by omega) f2
      have hE5 : Ext T1 T5 wr := HE1.out.trans HKp1.out.size f1
      have hK5 : Kp (All K) T1 wr _ := HKp1.out.trans HE1.out (kpAll f3 fun t ht => by omega)
      have HB5 := hid hB5
      have HE5 := hid hE5
      have HK5 := hid hK5
      clear f1 f2 f3 hB5 hE5 hK5 r1 r2 r3 r4 s1 s2 s3 s4 hB hSl hS0 hS12 hS19 hb18 hbz
      go_upto_region 45 with (fail)
      exact br14c HH.out HOP.out HA.out.hna HA.out.len HA.out.hxv HKL.out HE5.out HK5.out HB5.out (by assumption) (by assumption)
    · subst hi
      refine stepM (o := ⟨some 231, .buildSlice 66 1 #[(0, .tmp 230)], 66, "ref.go:111", #[⟨17,.data⟩], none⟩) rfl (fun K' hK => ?_)
      replace hbz : Below U.heap.size U ((U.drew.alloc (.cells #[.int .i64 c, .string f.meth.name, .int .i64 (k : Int)] 92)).alloc (.cells #[.int .i64 kl] 3)) := nstep hbz (bel1 _ _)
      go_simp
      refine hK _ _ (fun _ => hSl _ hbz) ?_
      clear hK K'
      try simp only [Act.put, List.setIfInBounds_toArray, List.set_cons_zero, List.set_cons_succ]
      refine wpAnyM_ready (rs := [12]) (by kernel_rfl) (by simp) ?_
      intro i hi
      simp only [List.mem_cons, List.not_mem_nil, or_false] at hi
      subst hi
      refine stepM (o := ⟨some 225, .call ⟨.builtin .append, #[.tmp 218, .tmp 224], #[65, 65]⟩, 65, "ref.go:111", #[⟨5,.data⟩,⟨11,.data⟩], none⟩) rfl (fun K' hK => ?_)
      have hs12 : ownsAt ((U.drew.alloc (.cells #[.int .i64 c, .string f.meth.name, .int .i64 (k : Int)] 92)).alloc (.cells #[.int .i64 kl] 3)) 0 92 3 (.slice a8 m.st.length p8) m.st.length (scells m.st) := (hB.mac.later hbz).sites
      obtain ⟨v8, w12, hrun12, r1, r2, r3, r4⟩ := run_append_at (w := (U.drew.alloc (.cells #[.int .i64 c, .string f.meth.name, .int .i64 (k : Int)] 92)).alloc (.cells #[.int .i64 kl] 3)) 65 65 92 _ 3 32 Try.underlying65 info92 rfl (by omega) 0 m.st.length (.slice a8 m.st.length p8) (scells m.st) hs12 (U.drew.heap.size) [.int .i64 c, .string f.meth.name, .int .i64 (k : Int)] rfl (box_later' (heap_alloc_new U.drew _) (bel1 _ _)) (by intro u hu; simp only [List.mem_cons, List.not_mem_nil, or_false] at hu; rcases hu with h | h | h <;> (subst h; rfl)) (by unfold maxLen; omega) (by omega) (by omega)
      obtain ⟨a8', p8', rfl, -⟩ := r1.form
      have hS12 : w12.cell? ⟨mb, 8, none⟩ = some (.slice a8 m.st.length p8) ∧ w12.cell? ⟨mb, 9, none⟩ = some (.slice a9 m.st.length p9) ∧ w12.cell? ⟨w.heap.size, 0, none⟩ = some (.string f.meth.name) := sd_app (f := { f with stack := f.stack.take nn }) hB.mac hB.fr hbz r4
      refine step_append_run rfl (.tmp 218) (.tmp 224) 65 rfl (.slice a8 m.st.length p8) (.slice (some ⟨U.drew.heap.size, 0, none⟩) 1 1) (.slice a8' (m.st.length + 1) p8') (by simp [Act.eval, Act.put]) (by simp [Act.eval, Act.put]) hrun12 ?_
      refine hK _ _ (fun _ => hS12) ?_
      clear hK K'
      try simp only [Act.put, List.setIfInBounds_toArray, List.set_cons_zero, List.set_cons_succ]
      have hb18 : Below w12.heap.size w12 w12 := Below.refl _ _
      refine wpAnyM_ready (rs := [19]) (by kernel_rfl) (by simp) ?_
      intro i hi
      simp only [List.mem_cons, List.not_mem_nil, or_false] at hi
      subst hi
      refine stepM (o := ⟨some 232, .call ⟨.builtin .append, #[.tmp 229, .tmp 231], #[66, 66]⟩, 66, "ref.go:111", #[⟨16,.data⟩,⟨18,.data⟩,⟨12,.chain⟩], none⟩) rfl (fun K' hK => ?_)
      have ho19 : ownsAt (w12) 0 3 1 (.slice a9 m.st.length p9) m.st.length (ocells m.st) := of_kept hB.mac hbz r4 hb18 r3.size
      obtain ⟨v9, w19, hrun19, s1, s2, s3, s4⟩ := run_append_at (w := w12) 66 66 3 _ 1 8 Try.underlying66 info3 rfl (by omega) 0 m.st.length (.slice a9 m.st.length p9) (ocells m.st) ho19 (U.drew.heap.size + 1) [.int .i64 kl] rfl (sd_box hB.mac hbz r4 (by have := heap_alloc_new (U.drew.alloc (.cells #[.int .i64 c, .string f.meth.name, .int .i64 (k : Int)] 92)) (.cells #[.int .i64 kl] 3); simpa using this) (by show U.heap.size ≤ U.heap.size + 1; omega)) (by intro u hu; simp only [List.mem_cons, List.not_mem_nil, or_false] at hu; subst hu; rfl) (by unfold maxLen; omega) (by omega) (by omega)
      obtain ⟨a9', p9', rfl, -⟩ := s1.form
      obtain ⟨⟨T5, f1, f2⟩, f3⟩ := sites_fin (q := (⟨c, f.meth.name, (k : Int)⟩, kl)) hB.mac hbz r1 r2 r3 r4 hb18 s1 s2 s3 s4
      have hS19 : w19.cell? ⟨mb, 8, none⟩ = some (.slice a8 m.st.length p8) ∧ w19.cell? ⟨mb, 9, none⟩ = some (.slice a9 m.st.length p9) ∧ w19.cell? ⟨w.heap.size, 0, none⟩ = some (.string f.meth.name) := sd_app2 (f := { f with stack := f.stack.take nn }) hB.mac hB.fr hbz r4 hb18 r3.size s4
      have cf19 : ∀ o, w19.frozen? ⟨mb, o, none⟩ = false := sd_free hB.mac hbz r4 hb18 r3.size s4
      have c19 := hS19.1
      have c199 := hS19.2.1
      refine step_append_run rfl (.tmp 229) (.tmp 231) 66 rfl (.slice a9 m.st.length p9) (.slice (some ⟨U.drew.heap.size + 1, 0, none⟩) 1 1) (.slice a9' (m.st.length + 1) p9') (by simp [Act.eval, Act.put]) (by simp [Act.eval, Act.put]) hrun19 ?_
      refine hK _ _ (fun _ => hS19) ?_
      clear hK K'
      try simp only [Act.put, List.setIfInBounds_toArray, List.set_cons_zero, List.set_cons_succ]
      refine wpAnyM_take (i := 20) (oi := ⟨some 233, .nilCheck (.tmp 213), 0, "ref.go:111", #[⟨0,.data⟩,⟨0,.phase⟩,⟨1, .textOnly .lateStores⟩,⟨2,.phase⟩,⟨3,.phase⟩,⟨4,.phase⟩,⟨5,.phase⟩,⟨6,.phase⟩,⟨7,.phase⟩,⟨8,.phase⟩,⟨9,.phase⟩,⟨10,.phase⟩,⟨11,.phase⟩,⟨12,.phase⟩,⟨13, .textOnly .lateStores⟩,⟨14, .textOnly .lateStoresUnsure⟩,⟨15, .textOnly .lateStoresUnsure⟩,⟨16,.phase⟩,⟨17, .textOnly .lateStores⟩,⟨18, .textOnly .lateStoresUnsure⟩,⟨19,.phase⟩], none⟩) (v := .pointer (some ⟨mb, 0, none⟩)) (by kernel_rfl) (by kernel_rfl) rfl (by kernel_rfl) (by kernel_rfl) (by kernel_rfl) (fun _ _ _ h => h) (Or.inl ⟨by rfl, ?_⟩) (hS19) ?_
      · intro w hSw
        obtain ⟨q0, q1, q2⟩ := hSw
        go_simp
      try simp only [Act.put, List.setIfInBounds_toArray, List.set_cons_zero, List.set_cons_succ]
      refine wpAnyM_take (i := 21) (oi := ⟨some 234, .fieldAddr 68 (.tmp 233) 6, 0, "ref.go:111", #[⟨20,.data⟩,⟨0,.phase⟩,⟨1, .textOnly .lateStores⟩,⟨2,.phase⟩,⟨3,.phase⟩,⟨4,.phase⟩,⟨5,.phase⟩,⟨6,.phase⟩,⟨7,.phase⟩,⟨8,.phase⟩,⟨9,.phase⟩,⟨10,.phase⟩,⟨11,.phase⟩,⟨12,.phase⟩,⟨13, .textOnly .lateStores⟩,⟨14, .textOnly .lateStoresUnsure⟩,⟨15, .textOnly .lateStoresUnsure⟩,⟨16,.phase⟩,⟨17, .textOnly .lateStores⟩,⟨18, .textOnly .lateStoresUnsure⟩,⟨19,.phase⟩], none⟩) (v := .pointer (some ⟨mb, 8, none⟩)) (by kernel_rfl) (by kernel_rfl) rfl (by kernel_rfl) (by kernel_rfl) (by kernel_rfl) (fun _ _ _ h => h) (Or.inl ⟨by rfl, ?_⟩) (hS19) ?_
      · intro w hSw
        obtain ⟨q0, q1, q2⟩ := hSw
        go_simp
      try simp only [Act.put, List.setIfInBounds_toArray, List.set_cons_zero, List.set_cons_succ]
      refine wpAnyM_ready (rs := [22]) (by kernel_rfl) (by simp) ?_
      intro i hi
      simp only [List.mem_cons, List.not_mem_nil, or_false] at hi
      subst hi
      refine stepM (o := ⟨none, .store 65 (.tmp 234) (.tmp 225), 0, "ref.go:111", #[⟨21,.data⟩,⟨12,.data⟩,⟨19,.chain⟩,⟨0,.phase⟩,⟨1, .textOnly .lateStores⟩,⟨2,.phase⟩,⟨3,.phase⟩,⟨4,.phase⟩,⟨5,.phase⟩,⟨6,.phase⟩,⟨7,.phase⟩,⟨8,.phase⟩,⟨9,.phase⟩,⟨10,.phase⟩,⟨11,.phase⟩,⟨12,.phase⟩,⟨13, .textOnly .lateStores⟩,⟨14, .textOnly .lateStoresUnsure⟩,⟨15, .textOnly .lateStoresUnsure⟩,⟨16,.phase⟩,⟨17, .textOnly .lateStores⟩,⟨18, .textOnly .lateStoresUnsure⟩,⟨19,.phase⟩], none⟩) rfl (fun K' hK => ?_)
      go_simp
      refine hK _ _ (fun h => absurd h (by decide)) ?_
      clear hK K'
      try simp only [Act.put, List.setIfInBounds_toArray, List.set_cons_zero, List.set_cons_succ]
      refine wpAnyM_only (S' := fun _ => True) (late' := []) (by kernel_rfl) ?_
      refine wpAnyM_take (i := 23) (oi := ⟨some 235, .nilCheck (.tmp 214), 0, "ref.go:111", #[⟨1,.data⟩,⟨0,.phase⟩,⟨1,.phase⟩,⟨2,.phase⟩,⟨3,.phase⟩,⟨4,.phase⟩,⟨5,.phase⟩,⟨6,.phase⟩,⟨7,.phase⟩,⟨8,.phase⟩,⟨9,.phase⟩,⟨10,.phase⟩,⟨11,.phase⟩,⟨12,.phase⟩,⟨13,.phase⟩,⟨14,.phase⟩,⟨15,.phase⟩,⟨16,.phase⟩,⟨17,.phase⟩,⟨18,.phase⟩,⟨19,.phase⟩,⟨20,.phase⟩,⟨21,.phase⟩,⟨22,.phase⟩], none⟩) (v := .pointer (some ⟨mb, 0, none⟩)) (by kernel_rfl) (by kernel_rfl) rfl (by kernel_rfl) (by kernel_rfl) (by kernel_rfl) (fun _ _ _ h => h) (Or.inl ⟨by rfl, ?_⟩) (trivial) ?_
      · intro w hSw
        obtain _h := hSw
        go_simp
      try simp only [Act.put, List.setIfInBounds_toArray, List.set_cons_zero, List.set_cons_succ]
      refine wpAnyM_take (i := 24) (oi := ⟨some 236, .fieldAddr 68 (.tmp 235) 7, 0, "ref.go:111", #[⟨23,.data⟩,⟨0,.phase⟩,⟨1,.phase⟩,⟨2,.phase⟩,⟨3,.phase⟩,⟨4,.phase⟩,⟨5,.phase⟩,⟨6,.phase⟩,⟨7,.phase⟩,⟨8,.phase⟩,⟨9,.phase⟩,⟨10,.phase⟩,⟨11,.phase⟩,⟨12,.phase⟩,⟨13,.phase⟩,⟨14,.phase⟩,⟨15,.phase⟩,⟨16,.phase⟩,⟨17,.phase⟩,⟨18,.phase⟩,⟨19,.phase⟩,⟨20,.phase⟩,⟨21,.phase⟩,⟨22,.phase⟩], none⟩) (v := .pointer (some ⟨mb, 9, none⟩)) (by kernel_rfl) (by kernel_rfl) rfl (by kernel_rfl) (by kernel_rfl) (by kernel_rfl) (fun _ _ _ h => h) (Or.inl ⟨by rfl, ?_⟩) (trivial) ?_
      · intro w hSw
        obtain _h := hSw
        go_simp
      try simp only [Act.put, List.setIfInBounds_toArray, List.set_cons_zero, List.set_cons_succ]
      refine wpAnyM_ready (rs := [25]) (by kernel_rfl) (by simp) ?_
      intro i hi
      simp only [List.mem_cons, List.not_mem_nil, or_false] at hi
      subst hi
      refine stepM (o := ⟨none, .store 66 (.tmp 236) (.tmp 232), 0, "ref.go:111", #[⟨24,.data⟩,⟨19,.data⟩,⟨22,.chain⟩,⟨0,.phase⟩,⟨1,.phase⟩,⟨2,.phase⟩,⟨3,.phase⟩,⟨4,.phase⟩,⟨5,.phase⟩,⟨6,.phase⟩,⟨7,.phase⟩,⟨8,.phase⟩,⟨9,.phase⟩,⟨10,.phase⟩,⟨11,.phase⟩,⟨12,.phase⟩,⟨13,.phase⟩,⟨14,.phase⟩,⟨15,.phase⟩,⟨16,.phase⟩,⟨17,.phase⟩,⟨18,.phase⟩,⟨19,.phase⟩,⟨20,.phase⟩,⟨21,.phase⟩,⟨22,.phase⟩], none⟩) rfl (fun K' hK => ?_)
      go_simp
      refine hK _ _ (fun _ => trivial) ?_
      clear hK K'
      try simp only [Act.put, List.setIfInBounds_toArray, List.set_cons_zero, List.set_cons_succ]
      refine wpAnyM_done (by kernel_rfl) ?_ _
      try simp only [Act.put, List.setIfInBounds_toArray, List.set_cons_zero, List.set_cons_succ]
      have hB5 := hB.keep (T' := T5) f1 f3 (by omega) (by omega) (by omega) (by omega) (by omega) f2
      have hE5 : Ext T1 T5 wr := HE1.out.trans HKp1.out.size f1
      have hK5 : Kp (All K) T1 wr _ := HKp1.out.trans HE1.out (kpAll f3 fun t ht => by omega)
      have HB5 := hid hB5
      have HE5 := hid hE5
      have HK5 := hid hK5
      clear f1 f2 f3 hB5 hE5 hK5 r1 r2 r3 r4 s1 s2 s3 s4 hB hSl hS0 hS12 hS19 hb18 hbz
      go_upto_region 45 with (fail)
      exact br14c HH.out HOP.out HA.out.hna HA.out.len HA.out.hxv HKL.out HE5.out HK5.out HB5.out (by assumption) (by assumption)
  · subst hi
    refine stepM (o := ⟨some 231, .buildSlice 66 1 #[(0, .tmp 230)], 66, "ref.go:111", #[⟨17,.data⟩], none⟩) rfl (fun K' hK => ?_)
    have hbz : Below U.heap.size U (U.drew.alloc (.cells #[.int .i64 kl] 3)) := nstep (Below.refl _ U).drew (bel1 _ _)
    go_simp
    refine hK _ _ (fun _ => hSl _ hbz) ?_
    clear hK K'
    try simp only [Act.put, List.setIfInBounds_toArray, List.set_cons_zero, List.set_cons_succ]
    refine wpAnyM_ready (rs := [11]) (by kernel_rfl) (by simp) ?_
    intro i hi
    simp only [List.mem_cons, List.not_mem_nil, or_false] at hi
    subst hi
    refine stepM (o := ⟨some 224, .buildSlice 65 1 #[(0, .tmp 223)], 65, "ref.go:111", #[⟨10,.data⟩], none⟩) rfl (fun K' hK => ?_)
    replace hbz : Below U.heap.size U ((U.drew.alloc (.cells #[.int .i64 kl] 3)).alloc (.cells #[.int .i64 c, .string f.meth.name, .int .i64 (k : Int)] 92)) := nstep hbz (bel1 _ _)
    go_simp
    refine hK _ _ (fun _ => hSl _ hbz) ?_
    clear hK K'
    try simp only [Act.put, List.setIfInBounds_toArray, List.set_cons_zero, List.set_cons_succ]
    refine wpAnyM_ready (rs := [12]) (by kernel_rfl) (by simp) ?_
    intro i hi
    simp only [List.mem_cons, List.not_mem_nil, or_false] at hi
    subst hi
    refine stepM (o := ⟨some 225, .call ⟨.builtin .append, #[.tmp 218, .tmp 224], #[65, 65]⟩, 65, "ref.go:111", #[⟨5,.data⟩,⟨11,.data⟩], none⟩) rfl (fun K' hK => ?_)
    have hs12 : ownsAt ((U.drew.alloc (.cells #[.int .i64 kl] 3)).alloc (.cells #[.int .i64 c, .string f.meth.name, .int .i64 (k : Int)] 92)) 0 92 3 (.slice a8 m.st.length p8) m.st.length (scells m.st) := (hB.mac.later hbz).sites
    obtain ⟨v8, w12, hrun12, r1, r2, r3, r4⟩ := run_append_at (w := (U.drew.alloc (.cells #[.int .i64 kl] 3)).alloc (.cells #[.int .i64 c, .string f.meth.name, .int .i64 (k : Int)] 92)) 65 65 92 _ 3 32 Try.underlying65 info92 rfl (by omega) 0 m.st.length (.slice a8 m.st.length p8) (scells m.st) hs12 (U.drew.heap.size + 1) [.int .i64 c, .string f.meth.name, .int .i64 (k : Int)] rfl (by have := heap_alloc_new (U.drew.alloc (.cells #[.int .i64 kl] 3)) (.cells #[.int .i64 c, .string f.meth.name, .int .i64 (k : Int)] 92); simpa using this) (by intro u hu; simp only [List.mem_cons, List.not_mem_nil, or_false] at hu; rcases hu with h | h | h <;> (subst h; rfl)) (by unfold maxLen; omega) (by omega) (by omega)
    obtain ⟨a8', p8', rfl, -⟩ := r1.form
    have hS12 : w12.cell? ⟨mb, 8, none⟩ = some (.slice a8 m.st.length p8) ∧ w12.cell? ⟨mb, 9, none⟩ = some (.slice a9 m.st.length p9) ∧ w12.cell? ⟨w.heap.size, 0, none⟩ = some (.string f.meth.name) := sd_app (f := { f with stack := f.stack.take nn }) hB.mac hB.fr hbz r4
    refine step_append_run rfl (.tmp 218) (.tmp 224) 65 rfl (.slice a8 m.st.length p8) (.slice (some ⟨U.drew.heap.size + 1, 0, none⟩) 1 1) (.slice a8' (m.st.length + 1) p8') (by simp [Act.eval, Act.put]) (by simp [Act.eval, Act.put]) hrun12 ?_
    refine hK _ _ (fun _ => hS12) ?_
    clear hK K'
    try simp only [Act.put, List.setIfInBounds_toArray, List.set_cons_zero, List.set_cons_succ]
    have hb18 : Below w12.heap.size w12 w12 := Below.refl _ _
    refine wpAnyM_ready (rs := [19]) (by kernel_rfl) (by simp) ?_
    intro i hi
    simp only [List.mem_cons, List.not_mem_nil, or_false] at hi
    subst hi
    refine stepM (o := ⟨some 232, .call ⟨.builtin .append, #[.tmp 229, .tmp 231], #[66, 66]⟩, 66, "ref.go:111", #[⟨16,.data⟩,⟨18,.data⟩,⟨12,.chain⟩], none⟩) rfl (fun K' hK => ?_)
    have ho19 : ownsAt (w12) 0 3 1 (.slice a9 m.st.length p9) m.st.length (ocells m.st) := of_kept hB.mac hbz r4 hb18 r3.size
    obtain ⟨v9, w19, hrun19, s1, s2, s3, s4⟩ := run_append_at (w := w12) 66 66 3 _ 1 8 Try.underlying66 info3 rfl (by omega) 0 m.st.length (.slice a9 m.st.length p9) (ocells m.st) ho19 (U.drew.heap.size) [.int .i64 kl] rfl (sd_box hB.mac hbz r4 (box_later' (heap_alloc_new U.drew (.cells #[.int .i64 kl] 3)) (bel1 _ _)) (Nat.le_refl _)) (by intro u hu; simp only [List.mem_cons, List.not_mem_nil, or_false] at hu; subst hu; rfl) (by unfold maxLen; omega) (by omega) (by omega)
    obtain ⟨a9', p9', rfl, -⟩ := s1.form
    obtain ⟨⟨T5, f1, f2⟩, f3⟩ := sites_fin (q := (⟨c, f.meth.name, (k : Int)⟩, kl)) hB.mac hbz r1 r2 r3 r4 hb18 s1 s2 s3 s4
    have hS19 : w19.cell? ⟨mb, 8, none⟩ = some (.slice a8 m.st.length p8) ∧ w19.cell? ⟨mb, 9, none⟩ = some (.slice a9 m.st.length p9) ∧ w19.cell? ⟨w.heap.size, 0, none⟩ = some (.string f.meth.name) := sd_app2 (f := { f with stack := f.stack.take nn }) hB.mac hB.fr hbz r4 hb18 r3.size s4
    have cf19 : ∀ o, w19.frozen? ⟨mb, o, none⟩ = false := sd_free hB.mac hbz r4 hb18 r3.size s4
    have c19 := hS19.1
    have c199 := hS19.2.1
    refine step_append_run rfl (.tmp 229) (.tmp 231) 66 rfl (.slice a9 m.st.length p9) (.slice (some ⟨U.drew.heap.size, 0, none⟩) 1 1) (.slice a9' (m.st.length + 1) p9') (by simp [Act.eval, Act.put]) (by simp [Act.eval, Act.put]) hrun19 ?_
    refine hK _ _ (fun _ => hS19) ?_
    clear hK K'
    try simp only [Act.put, List.setIfInBounds_toArray, List.set_cons_zero, List.set_cons_succ]
    refine wpAnyM_take (i := 20) (oi := ⟨some 233, .nilCheck (.tmp 213), 0, "ref.go:111", #[⟨0,.data⟩,⟨0,.phase⟩,⟨1, .textOnly .lateStores⟩,⟨2,.phase⟩,⟨3,.phase⟩,⟨4,.phase⟩,⟨5,.phase⟩,⟨6,.phase⟩,⟨7,.phase⟩,⟨8,.phase⟩,⟨9,.phase⟩,⟨10,.phase⟩,⟨11,.phase⟩,⟨12,.phase⟩,⟨13, .textOnly .lateStores⟩,⟨14, .textOnly .lateStoresUnsure⟩,⟨15, .textOnly .lateStoresUnsure⟩,⟨16,.phase⟩,⟨17, .textOnly .lateStores⟩,⟨18, .textOnly .lateStoresUnsure⟩,⟨19,.phase⟩], none⟩) (v := .pointer (some ⟨mb, 0, none⟩)) (by kernel_rfl) (by kernel_rfl) rfl (by kernel_rfl) (by kernel_rfl) (by kernel_rfl) (fun _ _ _ h => h) (Or.inl ⟨by rfl, ?_⟩) (hS19) ?_
    · intro w hSw
      obtain ⟨q0, q1, q2⟩ := hSw
      go_simp
    try simp only [Act.put, List.setIfInBounds_toArray, List.set_cons_zero, List.set_cons_succ]
    refine wpAnyM_take (i := 21) (oi := ⟨some 234, .fieldAddr 68 (.tmp 233) 6, 0, "ref.go:111", #[⟨20,.data⟩,⟨0,.phase⟩,⟨1, .textOnly .lateStores⟩,⟨2,.phase⟩,⟨3,.phase⟩,⟨4,.phase⟩,⟨5,.phase⟩,⟨6,.phase⟩,⟨7,.phase⟩,⟨8,.phase⟩,⟨9,.phase⟩,⟨10,.phase⟩,⟨11,.phase⟩,⟨12,.phase⟩,⟨13, .textOnly .lateStores⟩,⟨14, .textOnly .lateStoresUnsure⟩,⟨15, .textOnly .lateStoresUnsure⟩,⟨16,.phase⟩,⟨17, .textOnly .lateStores⟩,⟨18, .textOnly .lateStoresUnsure⟩,⟨19,.phase⟩], none⟩) (v := .pointer (some ⟨mb, 8, none⟩)) (by kernel_rfl) (by kernel_rfl) rfl (by kernel_rfl) (by kernel_rfl) (by kernel_rfl) (fun _ _ _ h => h) (Or.inl ⟨by rfl, ?_⟩) (hS19) ?_
    · intro w hSw
      obtain ⟨q0, q1, q2⟩ := hSw
      go_simp
    try simp only [Act.put, List.setIfInBounds_toArray, List.set_cons_zero, List.set_cons_succ]
    refine wpAnyM_ready (rs := [22]) (by kernel_rfl) (by simp) ?_
    intro i hi
    simp only [List.mem_cons, List.not_mem_nil, or_false] at hi
    subst hi
    refine stepM (o := ⟨none, .store 65 (.tmp 234) (.tmp 225), 0, "ref.go:111", #[⟨21,.data⟩,⟨12,.data⟩,⟨19,.chain⟩,⟨0,.phase⟩,⟨1, .textOnly .lateStores⟩,⟨2,.phase⟩,⟨3,.phase⟩,⟨4,.phase⟩,⟨5,.phase⟩,⟨6,.phase⟩,⟨7,.phase⟩,⟨8,.phase⟩,⟨9,.phase⟩,⟨10,.phase⟩,⟨11,.phase⟩,⟨12,.phase⟩,⟨13, .textOnly .lateStores⟩,⟨14, .textOnly .lateStoresUnsure⟩,⟨15, .textOnly .lateStoresUnsure⟩,⟨16,.phase⟩,⟨17, .textOnly .lateStores⟩,⟨18, .textOnly .lateStoresUnsure⟩,⟨19,.phase⟩], none⟩) rfl (fun K' hK => ?_)
    go_simp
    refine hK _ _ (fun h => absurd h (by decide)) ?_
    clear hK K'
    try simp only [Act.put, List.setIfInBounds_toArray, List.set_cons_zero, List.set_cons_succ]
    refine wpAnyM_only (S' := fun _ => True) (late' := []) (by kernel_rfl) ?_
    refine wpAnyM_take (i := 23) (oi := ⟨some 235, .nilCheck (.tmp 214), 0, "ref.go:111", #[⟨1,.data⟩,⟨0,.phase⟩,⟨1,.phase⟩,⟨2,.phase⟩,⟨3,.phase⟩,⟨4,.phase⟩,⟨5,.phase⟩,⟨6,.phase⟩,⟨7,.phase⟩,⟨8,.phase⟩,⟨9,.phase⟩,⟨10,.phase⟩,⟨11,.phase⟩,⟨12,.phase⟩,⟨13,.phase⟩,⟨14,.phase⟩,⟨15,.phase⟩,⟨16,.phase⟩,⟨17,.phase⟩,⟨18,.phase⟩,⟨19,.phase⟩,⟨20,.phase⟩,⟨21,.phase⟩,⟨22,.phase⟩], none⟩) (v := .pointer (some ⟨mb, 0, none⟩)) (by kernel_rfl) (by kernel_rfl) rfl (by kernel_rfl) (by kernel_rfl) (by kernel_rfl) (fun _ _ _ h => h) (Or.inl ⟨by rfl, ?_⟩) (trivial) ?_
    · intro w hSw
      obtain _h := hSw
      go_simp
    try simp only [Act.put, List.setIfInBounds_toArray, List.set_cons_zero, List.set_cons_succ]
    refine wpAnyM_take (i := 24) (oi := ⟨some 236, .fieldAddr 68 (.tmp 235) 7, 0, "ref.go:111", #[⟨23,.data⟩,⟨0,.phase⟩,⟨1,.phase⟩,⟨2,.phase⟩,⟨3,.phase⟩,⟨4,.phase⟩,⟨5,.phase⟩,⟨6,.phase⟩,⟨7,.phase⟩,⟨8,.phase⟩,⟨9,.phase⟩,⟨10,.phase⟩,⟨11,.phase⟩,⟨12,.phase⟩,⟨13,.phase⟩,⟨14,.phase⟩,⟨15,.phase⟩,⟨16,.phase⟩,⟨17,.phase⟩,⟨18,.phase⟩,⟨19,.phase⟩,⟨20,.phase⟩,⟨21,.phase⟩,⟨22,.phase⟩], none⟩) (v := .pointer (some ⟨mb, 9, none⟩)) (by kernel_rfl) (by kernel_rfl) rfl (by kernel_rfl) (by kernel_rfl) (by kernel_rfl) (fun _ _ _ h => h) (Or.inl ⟨by rfl, ?_⟩) (trivial) ?_
    · intro w hSw
      obtain _h := hSw
      go_simp
    try simp only [Act.put, List.setIfInBounds_toArray, List.set_cons_zero, List.set_cons_succ]
    refine wpAnyM_ready (rs := [25]) (by kernel_rfl) (by simp) ?_
    intro i hi
    simp only [List.mem_cons, List.not_mem_nil, or_false] at hi
    subst hi
    refine stepM (o := ⟨none, .store 66 (.tmp 236) (.tmp 232), 0, "ref.go:111", #[⟨24,.data⟩,⟨19,.data⟩,⟨22,.chain⟩,⟨0,.phase⟩,⟨1,.phase⟩,⟨2,.phase⟩,⟨3,.phase⟩,⟨4,.phase⟩,⟨5,.phase⟩,⟨6,.phase⟩,⟨7,.phase⟩,⟨8,.phase⟩,⟨9,.phase⟩,⟨10,.phase⟩,⟨11,.phase⟩,⟨12,.phase⟩,⟨13,.phase⟩,⟨14,.phase⟩,⟨15,.phase⟩,⟨16,.phase⟩,⟨17,.phase⟩,⟨18,.phase⟩,⟨19,.phase⟩,⟨20,.phase⟩,⟨21,.phase⟩,⟨22,.phase⟩], none⟩) rfl (fun K' hK => ?_)
    go_simp
    refine hK _ _ (fun _ => trivial) ?_
    clear hK K'
    try simp only [Act.put, List.setIfInBounds_toArray, List.set_cons_zero, List.set_cons_succ]
    refine wpAnyM_done (by kernel_rfl) ?_ _
    try simp only [Act.put, List.setIfInBounds_toArray, List.set_cons_zero, List.set_cons_succ]
    have hB5 := hB.keep (T' := T5) f1 f3 (by omega) (by omega) (by omega) (by omega) (by omega) f2
    have hE5 : Ext T1 T5 wr := HE1.out.trans HKp1.out.size f1
    have hK5 : Kp (All K) T1 wr _ := HKp1.out.trans HE1.out (kpAll f3 fun t ht => by omega)
    have HB5 := hid hB5
    have HE5 := hid hE5
    have HK5 := hid hK5
    clear f1 f2 f3 hB5 hE5 hK5 r1 r2 r3 r4 s1 s2 s3 s4 hB hSl hS0 hS12 hS19 hb18 hbz
    go_upto_region 45 with (fail)
    exact br14c HH.out HOP.out HA.out.hna HA.out.len HA.out.hxv HKL.out HE5.out HK5.out HB5.out (by assumption) (by assumption)
end Go.Proofs.Ytfdonemehiamjaa
/- Body's switch: a send, whole. -/
namespace Go.Proofs.Ytfdonemehiamjaa
open Go.ChangeShapes Go.WideShapes Go.ChangeAt Go.RowKit
set_option linter.unusedSimpArgs false
set_option linter.unusedVariables false
set_option maxRecDepth 100000

theorem sd_own {w w' : World} {B g n cap : Nat} {cs : List Value} (h : w.ownsRow B 27 2 (.slice (some ⟨g, 0, none⟩) n cap) n cs) (hb : Below w.heap.size w w') : w'.ownsRow B 27 2 (.slice (some ⟨g, 0, none⟩) n cap) n cs := by
  obtain ⟨h0, h1 | ⟨g', c, cur, e, h1, h2, h3⟩⟩ := h
  · cases h1.1
  · exact ⟨h0, Or.inr ⟨g', c, cur, e, h1, by rw [hb.block _ (blk_lt h2)]; exact h2, h3⟩⟩
theorem sd41a {W w1 : World} {g cap' B n : Nat} {args : List QV} (xv : QV) (hb : Below W.heap.size W w1) (hown : w1.ownsRow B 27 2 (.slice (some ⟨g, 0, none⟩) n cap') n (vcells args)) (hn : args.length = n) (hnl : n ≤ 1000000) (hB : W.heap.size ≤ B) :
    Below W.heap.size W (w1.alloc (.cells #[.int .i64 xv.k, .int .i64 xv.n] 27)) ∧ (w1.alloc (.cells #[.int .i64 xv.k, .int .i64 xv.n] 27)).heap[w1.heap.size]? = some (.cells #[.int .i64 xv.k, .int .i64 xv.n] 27 (0, 0)) ∧ IsVals (fun b => W.heap.size ≤ b ∧ b < (w1.alloc (.cells #[.int .i64 xv.k, .int .i64 xv.n] 27)).heap.size) (w1.alloc (.cells #[.int .i64 xv.k, .int .i64 xv.n] 27)) (.slice (some ⟨g, 0, none⟩) n cap') args := by
  have h1 := sd_own hown (bel1 w1 (.cells #[.int .i64 xv.k, .int .i64 xv.n] 27))
  refine ⟨nstep hb (bel1 _ _), heap_alloc_new w1 _, ?_⟩
  generalize (w1.alloc (.cells #[.int .i64 xv.k, .int .i64 xv.n] 27)) = V at *
  have hc : Cells ValC 2 (fun b => W.heap.size ≤ b ∧ b < V.heap.size) V (vcells args) args := ⟨vcells_len _, fun i y hy => by
    obtain ⟨d1, d2⟩ := vcells_get hy
    exact ⟨by simpa using d1, d2⟩⟩
  exact own_row goodV h1 hc hn (fun b h1 h2 => ⟨by omega, h2⟩) (by omega)
theorem sd_mk {wr W V : World} {f : Fr} {x : QI} {nn na xb : Nat} {asv : Value} {xv : QV} (hb : Below wr.heap.size wr W) (hl : wr.heap.size < W.heap.size) (hx : InB W wr.heap.size x) (h1 : Below W.heap.size W V) (h2 : V.heap[xb]? = some (.cells #[.int .i64 xv.k, .int .i64 xv.n] 27 (0, 0))) (h3 : IsVals (fun b => W.heap.size ≤ b ∧ b < V.heap.size) V asv (f.stack.drop (nn + 1))) (hxl : W.heap.size ≤ xb) (hna : x.a = (na : Int)) (hlen : f.stack.length = nn + 1 + na) (hxv : f.stack[nn]? = some xv) : SdA wr V f x nn na xb asv xv :=
  have hs := h1.size
  ⟨nstep hb h1, hx.later h1, h2, ⟨by omega, by omega⟩, h3.mono goodV fun b hb => ⟨by omega, hb.2⟩, hna, hlen, hxv⟩

set_option maxHeartbeats 8000000 in
theorem br14 {p : Rp} {d : Nat} {T T1 : Nat → Nat} {w wr W : World} {mb K : Nat} {R : Mc RSt × QV × Int} {av kv : Value} {gk G' : Nat} {m : Mc RSt} {f : Fr} {c : Int} {n1 n2 n3 k : Nat} {x : QI} {hv sv ov : Value} {sa : Option Addr} {sc : Nat} (H : SwC p d T w mb K R av kv gk G' c n1 n2 n3 T1 m f wr W k x hv sv ov sa sc) (hop : x.op = 14)
    {u0 u1 u2 u3 u4 u5 u6 u7 u8 u9 ua ub uc ud ue uf ug uh ui uj uk ul um un uo up uq ur us ut uu uv uw ux uy uz ua0 ua1 ua2 ua3 ua4 ua5 ua6 ua7 ua8 ua9
    uaa uab uac uad uae uaf uag uah uai uaj uak ual uam uan uao uap uaq uar uas uat uau uav uaw uax uay uaz ub0 ub1 ub2 ub3 ub4 ub5 ub6 ub7 ub8 ub9 uba ubb ubc ubd ube ubf ubg ubh
    ubi ubj ubk ubl ubm ubn ubo ubp ubq ubr ubs ubt ubu ubv ubw ubx uby ubz uc0 uc1 uc2 uc3 uc4 uc5 uc6 uc7 uc8 uc9 uca ucb ucc ucd uce ucf ucg uch
    uci ucj uck ucl ucm ucn uco ucp ucq ucr ucs uct ucu ucv ucw ucx ucy ucz ud0 ud1 ud2 ud3 ud4 ud5 ud6 ud7 ud8 ud9 uda udb udc udd ude udf udg udh
    udi udj udk udl udm udn udo udp udq udr uds udt udu udv udw udx udy udz ue0 ue1 ue2 ue3 ue4 ue5 ue6 ue7 ue8 ue9 uea ueb uec ued uee uef ueg ueh
    uei uej uek uel uem uen ueo uep ueq uer ues uet ueu uev uew uex uey uez uf0 uf1 uf2 uf3 uf4 uf5 uf6 uf7 uf8 uf9 ufa ufb ufc ufd ufe uff ufg ufh
    ufi ufj ufk ufl ufm ufn ufo ufp ufq ufr ufs uft ufu ufv ufw ufx ufy ufz ug0 ug1 ug2 ug3 ug4 ug5 ug6 ug7 ug8 ug9 uga ugb ugc ugd uge ugf ugg ugh
    ugi ugj ugk ugl ugm ugn ugo ugp ugq ugr ugs ugt ugu ugv ugw ugx ugy ugz uh0 uh1 uh2 uh3 : Value}
    {KT K2 K3 : Act → World → Prop}
    (hN : ∀ (u5 u6 u7 u8 u9 ua ub uc uu uv uw ux uy uz ua0 ua1 ua2 ua3 ua4 ua5 ua6 ua7 ua8 ua9 uaa uab uac uad uae uaf uag uah uai uaj uak ual uam uan uao uap uaq uar uas uat uau
    uav uaw uax uay uaz ub0 ub1 ub2 ub3 ub4 ub5 ub6 ub7 ub8 ub9 uba ubb ubc ubd ube ubf ubg ubh ubi ubj ubk ubl ubm ubn ubo ubp ubq ubr ubs ubt ubu ubv ubw ubx uby
    ubz uc0 uc1 uc2 uc3 uc4 uc5 uc6 uc7 uc8 uc9 uca ucb ucc ucd uce ucf ucg uch uci ucj uck ucl ucm ucn uco ucp ucq ucr ucs uct ucu ucv ucw ucx ucy
    ucz ud0 ud1 ud2 ud3 ud4 ud5 ud6 ud7 ud8 ud9 uda udb udc udd ude udf udg udh udi udj udk udl udm udn udo udp udq udr uds udt udu udv udw udx udy
    udz ue0 ue1 ue2 ue3 ue4 ue5 ue6 ue7 ue8 ue9 uea ueb uec ued uee uef ueg ueh uei uej uek uel uem uen ueo uep ueq uer ues uet ueu uev uew uex uey
    uez uf0 uf1 uf2 uf3 uf4 uf5 uf6 uf7 uf8 uf9 ufa ufb ufc ufd ufe uff ufg ufh ufi ufj ufk ufl ufm ufn ufo ufp ufq ufr ufs uft ufu ufv ufw ufx ufy
    ufz ug0 ug1 ug2 ug3 ug4 ug5 ug6 ug7 ug8 ug9 uga ugb ugc ugd uge ugf ugg ugh ugi ugj : Value) (tg : Int) (w' : World), SwOk p d T w mb K R av kv G' c n1 n2 n3 T1 m f wr k x tg w' → KT (Act.mk #[.pointer (some ⟨mb, 0, none⟩), .int .i64 c,u0,u1, av,u2,u3, .pointer (some ⟨w.heap.size, 0, none⟩), .pointer (some ⟨w.heap.size + 1, 0, none⟩),u4, .pointer (some
    ⟨w.heap.size + 2, 0, none⟩), .slice (some ⟨w.heap.size + 3, 0, none⟩) n2 n2, .pointer (some ⟨w.heap.size + 4, 0, none⟩), .func (.func 47) #[] #[.pointer (some ⟨w.heap.size + 4, 0,
    none⟩)], .int .i64 (k : Int), .pointer (some ⟨wr.heap.size, 0, none⟩), .int .i64 tg,u5,u6,u7,u8,u9,ua,ub,uc,ud,ue,uf,ug,uh,ui,uj,uk,ul,um,un,
    uo,up,uq,ur,us,ut, .int .i64 14,uu,uv,uw,ux,uy,uz,ua0,ua1,ua2,ua3,ua4,ua5,ua6,ua7,ua8,ua9,uaa,uab,uac,uad,uae,uaf,uag,uah,uai,uaj,uak,
    ual,uam,uan,uao,uap,uaq,uar,uas,uat,uau,uav,uaw,uax,uay,uaz,ub0,ub1,ub2,ub3,ub4,ub5,ub6,ub7,ub8,ub9,uba,ubb,ubc,ubd,ube,ubf,ubg,ubh,ubi,ubj,
    ubk,ubl,ubm,ubn,ubo,ubp,ubq,ubr,ubs,ubt,ubu,ubv,ubw,ubx,uby,ubz,uc0,uc1,uc2,uc3,uc4,uc5,uc6,uc7,uc8,uc9,uca,ucb,ucc,ucd,
    uce,ucf,ucg,uch,uci,ucj,uck,ucl,ucm,ucn,uco,ucp,ucq,ucr,ucs,uct,ucu,ucv,ucw,ucx,ucy,ucz,ud0,ud1,ud2,ud3,ud4,ud5,ud6,ud7,
    ud8,ud9,uda,udb,udc,udd,ude,udf,udg,udh,udi,udj,udk,udl,udm,udn,udo,udp,udq,udr,uds,udt,udu,udv,udw,udx,udy,udz,ue0,ue1,
    ue2,ue3,ue4,ue5,ue6,ue7,ue8,ue9,uea,ueb,uec,ued,uee,uef,ueg,ueh,uei,uej,uek,uel,uem,uen,ueo,uep,ueq,uer,ues,uet,ueu,uev,
    uew,uex,uey,uez,uf0,uf1,uf2,uf3,uf4,uf5,uf6,uf7,uf8,uf9,ufa,ufb,ufc,ufd,ufe,uff,ufg,ufh,ufi,ufj,ufk,ufl,ufm,ufn,ufo,ufp,
    ufq,ufr,ufs,uft,ufu,ufv,ufw,ufx,ufy,ufz,ug0,ug1,ug2,ug3,ug4,ug5,ug6,ug7,ug8,ug9,uga,ugb,ugc,ugd,uge,ugf,ugg,ugh,ugi,ugj,
    ugk,ugl,ugm,ugn,ugo,ugp,ugq,ugr,ugs,ugt,ugu,ugv,ugw,ugx,ugy,ugz,uh0,uh1,uh2,uh3] []) w')
    {K9 : Act → World → Prop} (hK9 : ∀ a w', Code.wp Try.prog sw9 (Exit.inBlock 2 (Exit.then KT (Exit.inBlock 1 (Exit.then K2 (Exit.inBlock 0 (Exit.then K3 (bodyPost Try.prog Try.f37 fun e w' => RePost p T w mb (20 - (d : Int)) K R e w'))))))) a w' → K9 a w') :
    Code.wp Try.prog reg9 (Exit.then K9 (Exit.inBlock 2 (Exit.then KT (Exit.inBlock 1 (Exit.then K2 (Exit.inBlock 0 (Exit.then K3 (bodyPost Try.prog Try.f37 fun e w' => RePost p T w mb (20 - (d : Int)) K R e w')))))))) (Act.mk #[.pointer (some ⟨mb, 0, none⟩), .int .i64 c,u0,u1, av,u2,u3, .pointer (some ⟨w.heap.size, 0, none⟩), .pointer (some ⟨w.heap.size + 1, 0, none⟩),u4, .pointer (some
    ⟨w.heap.size + 2, 0, none⟩), .slice (some ⟨w.heap.size + 3, 0, none⟩) n2 n2, .pointer (some ⟨w.heap.size + 4, 0, none⟩), .func (.func 47) #[] #[.pointer (some ⟨w.heap.size + 4, 0,
    none⟩)], .int .i64 (k : Int), .pointer (some ⟨wr.heap.size, 0, none⟩), .int .i64 ((k : Int) + 1),u5,u6,u7,u8,u9,ua,ub,uc,ud,ue,uf,ug,uh,ui,uj,uk,
    ul,um,un,uo,up,uq,ur,us,ut, .int .i64 14,uu,uv,uw,ux,uy,uz,ua0,ua1,ua2,ua3,ua4,ua5,ua6,ua7,ua8,ua9,uaa,uab,uac,uad,uae,uaf,uag,uah,
    uai,uaj,uak,ual,uam,uan,uao,uap,uaq,uar,uas,uat,uau,uav,uaw,uax,uay,uaz,ub0,ub1,ub2,ub3,ub4,ub5,ub6,ub7,ub8,ub9,uba,ubb,ubc,ubd,ube,ubf,ubg,
    ubh,ubi,ubj,ubk,ubl,ubm,ubn,ubo,ubp,ubq,ubr,ubs,ubt,ubu,ubv,ubw,ubx,uby,ubz,uc0,uc1,uc2,uc3,uc4,uc5,uc6,uc7,uc8,uc9,uca,
    ucb,ucc,ucd,uce,ucf,ucg,uch,uci,ucj,uck,ucl,ucm,ucn,uco,ucp,ucq,ucr,ucs,uct,ucu,ucv,ucw,ucx,ucy,ucz,ud0,ud1,ud2,ud3,ud4,
    ud5,ud6,ud7,ud8,ud9,uda,udb,udc,udd,ude,udf,udg,udh,udi,udj,udk,udl,udm,udn,udo,udp,udq,udr,uds,udt,udu,udv,udw,udx,udy,
    udz,ue0,ue1,ue2,ue3,ue4,ue5,ue6,ue7,ue8,ue9,uea,ueb,uec,ued,uee,uef,ueg,ueh,uei,uej,uek,uel,uem,uen,ueo,uep,ueq,uer,ues,
    uet,ueu,uev,uew,uex,uey,uez,uf0,uf1,uf2,uf3,uf4,uf5,uf6,uf7,uf8,uf9,ufa,ufb,ufc,ufd,ufe,uff,ufg,ufh,ufi,ufj,ufk,ufl,ufm,
    ufn,ufo,ufp,ufq,ufr,ufs,uft,ufu,ufv,ufw,ufx,ufy,ufz,ug0,ug1,ug2,ug3,ug4,ug5,ug6,ug7,ug8,ug9,uga,ugb,ugc,ugd,uge,ugf,ugg,
    ugh,ugi,ugj,ugk,ugl,ugm,ugn,ugo,ugp,ugq,ugr,ugs,ugt,ugu,ugv,ugw,ugx,ugy,ugz,uh0,uh1,uh2,uh3] []) W := by
  have HH := hid H
  obtain ⟨hX, hEn, HR0, HG0, HX0, HMa0, HF0, hscap, HL0, hbel, hxb, ⟨aa, ca, rfl, hca⟩, ht40, HI0⟩ := H
  have HR := hid HR0
  have HG := hid HG0
  have HX := hid HX0
  have HMa := hid HMa0
  have HF := hid HF0
  have HL := hid HL0
  have HB1 := hid hbel
  have HI := hid HI0
  have HOP := hid hop
  have HEn := hid hEn
  have hM1 := HMa0.later hbel
  have hF1 := HF0.later hbel
  obtain ⟨hsc1, hsc2⟩ := hscap
  have hBl : w.heap.size + 4 < wr.heap.size := blk_lt HF0.sb
  have hWl : wr.heap.size ≤ W.heap.size := hbel.size
  clear HR0 HG0 HX0 HMa0 HF0 HL0 HI0 hop hbel hEn
  unfold reg9
  unfold sw9 at hK9
  have hp5 := hF1.pos
  have hfw := HX.out.few
  obtain ⟨hs0, hs4⟩ := HX.out.send HOP.out
  have hneed := HX.out.need
  obtain ⟨na, hna⟩ : ∃ na : Nat, x.a = (na : Int) := ⟨x.a.toNat, by omega⟩
  have hnx : na + 1 ≤ f.stack.length := by
    have hop : x.op = 14 := HOP.out
    have hn : (nextE x k).need = x.a + 1 := by unfold nextE; simp [hop]
    rw [hn, hna] at hneed; omega
  obtain ⟨nn, hlen⟩ : ∃ nn, f.stack.length = nn + 1 + na := ⟨f.stack.length - 1 - na, by omega⟩
  obtain ⟨xv, hxv⟩ : ∃ xv, f.stack[nn]? = some xv := ⟨f.stack[nn]'(by omega), by simp⟩
  have HN := hid (And.intro hna (And.intro hlen hxv))
  have hv := hF1.stack.vals (by omega)
  obtain ⟨a', cap', e', -, -, -, hrow⟩ := hv
  cases e'
  obtain ⟨gs, os, rfl, hbo, y0, y1⟩ := hrow nn xv hxv
  simp only [Nat.add_zero] at y0
  have htl := hF1.stack.tail (k := nn + 1) (by omega) (by omega)
  have hdl : (f.stack.drop (nn + 1)).length = na := by rw [List.length_drop]; omega
  rw [hdl] at htl
  obtain ⟨at1, ct1, et1, -, -, hby, hrw⟩ := htl
  simp only [Value.slice.injEq] at et1
  obtain ⟨et1, -, et3⟩ := et1
  subst et1
  subst et3
  obtain ⟨vs, hvs, hvsrc⟩ := hrw.cells goodV
  have hvc := vcells_of_row (E := ()) hvs
  subst hvc
  have hvl : (vcells (f.stack.drop (nn + 1))).length = na * 2 := by rw [vcells_len, hdl]
  obtain ⟨ad, HAD⟩ : ∃ ad, Hid (ad = if sc = nn + 1 then some (Addr.mk gs os none) else some (Addr.mk gs (os + (nn + 1) * 2) none)) := ⟨_, rfl⟩
  have HV : Hid (∀ (j : Nat) (u : Value), (vcells (f.stack.drop (nn + 1)))[j]? = some u → ∃ b, ad = some b ∧ W.cell? (b.add j) = some u) := by
    intro j u hj
    by_cases hsn : sc = nn + 1
    · have : f.stack.drop (nn + 1) = [] := List.eq_nil_of_length_eq_zero (by omega)
      rw [this] at hj
      simp [vcells] at hj
    · rw [HAD.out, if_neg hsn]
      exact hvsrc j u hj
  have x1 := hxb.x1
  rw [hna] at x1
  have hw40 : IntKind.i64.wrap ((f.stack.length : Int) - (na : Int)) = ((nn + 1 : Nat) : Int) := by rw [wrap_of (by omega) (by omega)]; omega
  have hwn : IntKind.i64.wrap (((nn + 1 : Nat) : Int) - 1) = (nn : Int) := by rw [wrap_of (by omega) (by omega)]; omega
  have hst0 := hF1.st
  have hWl2 : wr.heap.size < W.heap.size := World.block_lt_of_cell? W ⟨wr.heap.size, 1, none⟩ hxb.x1
  have hSl : ∀ w', Below W.heap.size W w' → w'.cell? ⟨w.heap.size + 4, 0, none⟩ = some (.slice (some ⟨gs, os, none⟩) f.stack.length sc) ∧ w'.cell? ⟨gs, os + nn * 2, none⟩ = some (.int .i64 xv.k) ∧ w'.cell? ⟨gs, os + nn * 2 + 1, none⟩ = some (.int .i64 xv.n) := fun w' hb => ⟨cell_later hb hF1.st, cell_later hb y0, cell_later hb y1⟩
  have hS0 := hSl _ (Below.refl _ W).drew
  clear hrow hrw hvsrc hvs hna hM1 hneed hs0 hs4 hbo
  go_upto_region 41 with (fail)
  clear hst0 x1 hw40
  refine wp_region_late (S := fun w' => w'.cell? ⟨w.heap.size + 4, 0, none⟩ = some (.slice (some ⟨gs, os, none⟩) f.stack.length sc) ∧ w'.cell? ⟨gs, os + nn * 2, none⟩ = some (.int .i64 xv.k) ∧ w'.cell? ⟨gs, os + nn * 2 + 1, none⟩ = some (.int .i64 xv.n)) [12] (by kernel_rfl) ?_
  refine wpAnyM_take (i := 1) (oi := ⟨some 193, .load 28 (.tmp 12), 28, "ref.go:108", #[], none⟩) (v := .slice (some ⟨gs, os, none⟩) f.stack.length sc) (by kernel_rfl) (by kernel_rfl) rfl (by kernel_rfl) (by kernel_rfl) (by kernel_rfl) (fun _ _ _ h => h) (Or.inl ⟨by rfl, ?_⟩) (hS0) ?_
  · intro w hSw
    obtain ⟨q0, q1, q2⟩ := hSw
    go_simp
  try simp only [Act.put, List.setIfInBounds_toArray, List.set_cons_zero, List.set_cons_succ]
  refine wpAnyM_take (i := 2) (oi := ⟨some 194, .move (.tmp 18), 3, "ref.go:108", #[], none⟩) (v := .int .i64 ((nn + 1 : Nat) : Int)) (by kernel_rfl) (by kernel_rfl) rfl (by kernel_rfl) (by kernel_rfl) (by kernel_rfl) (fun _ _ _ h => h) (Or.inl ⟨by rfl, ?_⟩) (hS0) ?_
  · intro w hSw
    obtain ⟨q0, q1, q2⟩ := hSw
    go_simp
  try simp only [Act.put, List.setIfInBounds_toArray, List.set_cons_zero, List.set_cons_succ]
  refine wpAnyM_take (i := 3) (oi := ⟨some 195, .slice 28 (.tmp 193) (some (.tmp 194)) none none, 28, "ref.go:108", #[⟨1,.data⟩,⟨2,.data⟩], none⟩) (v := .slice ad na (sc - (nn + 1))) (by kernel_rfl) (by kernel_rfl) rfl (by kernel_rfl) (by kernel_rfl) (by kernel_rfl) (fun _ _ _ h => h) (Or.inl ⟨by rfl, ?_⟩) (hS0) ?_
  · intro w hSw
    obtain ⟨q0, q1, q2⟩ := hSw
    go_simp
    rw [if_pos (by omega), HAD.out]
  try simp only [Act.put, List.setIfInBounds_toArray, List.set_cons_zero, List.set_cons_succ]
  refine wpAnyM_take (i := 5) (oi := ⟨some 197, .load 28 (.tmp 12), 28, "ref.go:108", #[⟨11, .gcOnly .lateStores⟩], none⟩) (v := .slice (some ⟨gs, os, none⟩) f.stack.length sc) (by kernel_rfl) (by kernel_rfl) rfl (by kernel_rfl) (by kernel_rfl) (by kernel_rfl) (fun _ _ _ h => h) (Or.inl ⟨by rfl, ?_⟩) (hS0) ?_
  · intro w hSw
    obtain ⟨q0, q1, q2⟩ := hSw
    go_simp
  try simp only [Act.put, List.setIfInBounds_toArray, List.set_cons_zero, List.set_cons_succ]
  refine wpAnyM_take (i := 6) (oi := ⟨some 198, .move (.tmp 18), 3, "ref.go:108", #[⟨11, .gcOnly .lateStores⟩], none⟩) (v := .int .i64 ((nn + 1 : Nat) : Int)) (by kernel_rfl) (by kernel_rfl) rfl (by kernel_rfl) (by kernel_rfl) (by kernel_rfl) (fun _ _ _ h => h) (Or.inl ⟨by rfl, ?_⟩) (hS0) ?_
  · intro w hSw
    obtain ⟨q0, q1, q2⟩ := hSw
    go_simp
  try simp only [Act.put, List.setIfInBounds_toArray, List.set_cons_zero, List.set_cons_succ]
  refine wpAnyM_take (i := 7) (oi := ⟨some 199, .binOp .sub 3 (.tmp 198) (.const (.int .i64 1)) 3, 3, "ref.go:108", #[⟨6,.data⟩,⟨11, .gcOnly .lateStores⟩], none⟩) (v := .int .i64 (nn : Int)) (by kernel_rfl) (by kernel_rfl) rfl (by kernel_rfl) (by kernel_rfl) (by kernel_rfl) (fun _ _ _ h => h) (Or.inl ⟨by rfl, ?_⟩) (hS0) ?_
  · intro w hSw
    obtain ⟨q0, q1, q2⟩ := hSw
    go_simp
    exact wrap_of (by omega) (by omega)
  try simp only [Act.put, List.setIfInBounds_toArray, List.set_cons_zero, List.set_cons_succ]
  refine wpAnyM_take (i := 8) (oi := ⟨some 200, .indexAddr 28 (.tmp 197) (.tmp 199), 0, "ref.go:108", #[⟨5,.data⟩,⟨7,.data⟩,⟨11, .gcOnly .lateStores⟩], none⟩) (v := .pointer (some ⟨gs, os + nn * 2, none⟩)) (by kernel_rfl) (by kernel_rfl) rfl (by kernel_rfl) (by kernel_rfl) (by kernel_rfl) (fun _ _ _ h => h) (Or.inl ⟨by rfl, ?_⟩) (hS0) ?_
  · intro w hSw
    obtain ⟨q0, q1, q2⟩ := hSw
    go_simp
    intro h; omega
  try simp only [Act.put, List.setIfInBounds_toArray, List.set_cons_zero, List.set_cons_succ]
  refine wpAnyM_take (i := 9) (oi := ⟨some 201, .load 27 (.tmp 200), 27, "ref.go:108", #[⟨8,.data⟩,⟨11, .gcOnly .lateStores⟩], none⟩) (v := VV xv) (by kernel_rfl) (by kernel_rfl) rfl (by kernel_rfl) (by kernel_rfl) (by kernel_rfl) (fun _ _ _ h => h) (Or.inl ⟨by rfl, ?_⟩) (hS0) ?_
  · intro w hSw
    obtain ⟨q0, q1, q2⟩ := hSw
    go_simp
  try simp only [Act.put, List.setIfInBounds_toArray, List.set_cons_zero, List.set_cons_succ]
  refine wpAnyM_ready (rs := [0, 10]) (by kernel_rfl) (by simp) ?_
  intro i hi
  simp only [List.mem_cons, List.not_mem_nil, or_false] at hi
  rcases hi with hi | hi
  · subst hi
    refine stepM (o := ⟨some 192, .buildSlice 28 0 #[], 28, "ref.go:108", #[], none⟩) rfl (fun K' hK => ?_)
    have hbz : Below W.heap.size W (W.drew.alloc (.cells #[] 27)) := nstep (Below.refl _ W).drew (bel1 _ _)
    go_simp
    refine hK _ _ (fun _ => hSl _ hbz) ?_
    clear hK K'
    try simp only [Act.put, List.setIfInBounds_toArray, List.set_cons_zero, List.set_cons_succ]
    refine wpAnyM_ready (rs := [4, 10]) (by kernel_rfl) (by simp) ?_
    intro i hi
    simp only [List.mem_cons, List.not_mem_nil, or_false] at hi
    rcases hi with hi | hi
    · subst hi
      refine stepM (o := ⟨some 196, .call ⟨.builtin .append, #[.tmp 192, .tmp 195], #[28, 28]⟩, 28, "ref.go:108", #[⟨0,.data⟩,⟨3,.data⟩], none⟩) rfl (fun K' hK => ?_)
      obtain ⟨g, cap1, w1, hrun1, hown, hgB, hgl, hbA⟩ := run_append_src (w := (W.drew.alloc (.cells #[] 27))) 28 28 27 _ 2 16 Try.underlying28 info27 rfl (by omega) (by omega) (W.drew.heap.size) (heap_alloc_new W.drew _) ad na (sc - (nn + 1)) (vcells (f.stack.drop (nn + 1))) hvl (fun j u hj => by obtain ⟨b, e, h⟩ := HV.out j u hj; exact ⟨b, e, cell_later hbz h⟩) (by omega)
      have hb1 : Below W.heap.size W w1 := nstep hbz hbA
      refine step_append_run rfl (.tmp 192) (.tmp 195) 28 rfl (.slice (some ⟨W.drew.heap.size, 0, none⟩) 0 0) (.slice ad na (sc - (nn + 1))) (.slice (some ⟨g, 0, none⟩) na cap1) (by simp [Act.eval, Act.put]) (by simp [Act.eval, Act.put]) hrun1 ?_
      refine hK _ _ (fun _ => hSl _ hb1) ?_
      clear hK K'
      try simp only [Act.put, List.setIfInBounds_toArray, List.set_cons_zero, List.set_cons_succ]
      refine wpAnyM_ready (rs := [10]) (by kernel_rfl) (by simp) ?_
      intro i hi
      simp only [List.mem_cons, List.not_mem_nil, or_false] at hi
      subst hi
      refine stepM (o := ⟨some 20, .alloc 27, 0, "ref.go:108", #[], none⟩) rfl (fun K' hK => ?_)
      go_simp
      refine hK _ _ (fun _ => hSl _ (nstep hb1 (bel1 _ _))) ?_
      clear hK K'
      try simp only [Act.put, List.setIfInBounds_toArray, List.set_cons_zero, List.set_cons_succ]
      refine wpAnyM_take (i := 11) (oi := ⟨some 19, .assign (.tmp 196), 28, "ref.go:108", #[⟨4,.data⟩,⟨4,.chain⟩,⟨0,.phase⟩,⟨1,.phase⟩,⟨2,.phase⟩,⟨3,.phase⟩,⟨4,.phase⟩,⟨5, .textOnly .lateStores⟩,⟨6, .textOnly .lateStores⟩,⟨7, .textOnly .lateStores⟩,⟨8, .textOnly .lateStores⟩,⟨9, .textOnly .lateStores⟩,⟨10,.phase⟩], none⟩) (v := .slice (some ⟨g, 0, none⟩) na cap1) (by kernel_rfl) (by kernel_rfl) rfl (by kernel_rfl) (by kernel_rfl) (by kernel_rfl) (fun _ _ _ h => h) (Or.inl ⟨by rfl, ?_⟩) (hSl _ (nstep hb1 (bel1 _ _))) ?_
      · intro w hSw
        obtain ⟨q0, q1, q2⟩ := hSw
        go_simp
      try simp only [Act.put, List.setIfInBounds_toArray, List.set_cons_zero, List.set_cons_succ]
      have hx0 : (w1.alloc (.cells #[.int .i64 0, .int .i64 0] 27)).heap[w1.heap.size]? = some (.cells #[.int .i64 0, .int .i64 0] 27 (0, 0)) := heap_alloc_new w1 _
      have x00 : (w1.alloc (.cells #[.int .i64 0, .int .i64 0] 27)).cell? ⟨w1.heap.size, 0, none⟩ = some (.int .i64 0) := by rw [cell_of_row _ _ _ _ _ _ hx0]; rfl
      have x01 : (w1.alloc (.cells #[.int .i64 0, .int .i64 0] 27)).cell? ⟨w1.heap.size, 1, none⟩ = some (.int .i64 0) := by rw [cell_of_row _ _ _ _ _ _ hx0]; rfl
      have x0f := row_free hx0
      obtain ⟨e1, e2, e3⟩ := sd41a (n := na) xv hb1 hown (by rw [List.length_drop]; omega) (by omega) (Nat.le_refl _)
      have hgg : W.heap.size ≤ w1.heap.size := hb1.size
      refine wpAnyM_ready (rs := [12]) (by kernel_rfl) (by simp) ?_
      intro i hi
      simp only [List.mem_cons, List.not_mem_nil, or_false] at hi
      subst hi
      refine stepM (o := ⟨none, .store 27 (.tmp 20) (.tmp 201), 0, "ref.go:108", #[⟨10,.data⟩,⟨9,.data⟩,⟨11,.chain⟩,⟨0,.phase⟩,⟨1,.phase⟩,⟨2,.phase⟩,⟨3,.phase⟩,⟨4,.phase⟩,⟨5,.phase⟩,⟨6,.phase⟩,⟨7,.phase⟩,⟨8,.phase⟩,⟨9,.phase⟩,⟨10,.phase⟩,⟨11,.phase⟩], none⟩) rfl (fun K' hK => ?_)
      go_simp
      refine hK _ _ (fun h => absurd h (by decide)) ?_
      clear hK K'
      try simp only [Act.put, List.setIfInBounds_toArray, List.set_cons_zero, List.set_cons_succ]
      refine wpAnyM_done (by kernel_rfl) ?_ _
      try simp only [Act.put, List.setIfInBounds_toArray, List.set_cons_zero, List.set_cons_succ]
      have HE1 := hid e1
      have HE2 := hid e2
      have HE3 := hid e3
      clear e1 e2 e3 hSl hS0 hF1 x00 x01 x0f hx0
      go_upto_region 42 with (fail)
      exact br14b HH.out HOP.out (sd_mk HB1.out hWl2 hxb HE1.out HE2.out HE3.out hgg HN.out.1 HN.out.2.1 HN.out.2.2) (by assumption) (by assumption)
    · subst hi
      refine stepM (o := ⟨some 20, .alloc 27, 0, "ref.go:108", #[], none⟩) rfl (fun K' hK => ?_)
      replace hbz : Below W.heap.size W ((W.drew.alloc (.cells #[] 27)).alloc (.cells #[.int .i64 0, .int .i64 0] 27)) := nstep hbz (bel1 _ _)
      go_simp
      refine hK _ _ (fun _ => hSl _ hbz) ?_
      clear hK K'
      try simp only [Act.put, List.setIfInBounds_toArray, List.set_cons_zero, List.set_cons_succ]
      refine wpAnyM_ready (rs := [4]) (by kernel_rfl) (by simp) ?_
      intro i hi
      simp only [List.mem_cons, List.not_mem_nil, or_false] at hi
      subst hi
      refine stepM (o := ⟨some 196, .call ⟨.builtin .append, #[.tmp 192, .tmp 195], #[28, 28]⟩, 28, "ref.go:108", #[⟨0,.data⟩,⟨3,.data⟩], none⟩) rfl (fun K' hK => ?_)
      obtain ⟨g, cap1, w1, hrun1, hown, hgB, hgl, hbA⟩ := run_append_src (w := (W.drew.alloc (.cells #[] 27)).alloc (.cells #[.int .i64 0, .int .i64 0] 27)) 28 28 27 _ 2 16 Try.underlying28 info27 rfl (by omega) (by omega) (W.drew.heap.size) (box_later' (heap_alloc_new W.drew _) (bel1 _ _)) ad na (sc - (nn + 1)) (vcells (f.stack.drop (nn + 1))) hvl (fun j u hj => by obtain ⟨b, e, h⟩ := HV.out j u hj; exact ⟨b, e, cell_later hbz h⟩) (by omega)
      have hb1 : Below W.heap.size W w1 := nstep hbz hbA
      refine step_append_run rfl (.tmp 192) (.tmp 195) 28 rfl (.slice (some ⟨W.drew.heap.size, 0, none⟩) 0 0) (.slice ad na (sc - (nn + 1))) (.slice (some ⟨g, 0, none⟩) na cap1) (by simp [Act.eval, Act.put]) (by simp [Act.eval, Act.put]) hrun1 ?_
      refine hK _ _ (fun _ => hSl _ hb1) ?_
      clear hK K'
      try simp only [Act.put, List.setIfInBounds_toArray, List.set_cons_zero, List.set_cons_succ]
      refine wpAnyM_take (i := 11) (oi := ⟨some 19, .assign (.tmp 196), 28, "ref.go:108", #[⟨4,.data⟩,⟨4,.chain⟩,⟨0,.phase⟩,⟨1,.phase⟩,⟨2,.phase⟩,⟨3,.phase⟩,⟨4,.phase⟩,⟨5, .textOnly .lateStores⟩,⟨6, .textOnly .lateStores⟩,⟨7, .textOnly .lateStores⟩,⟨8, .textOnly .lateStores⟩,⟨9, .textOnly .lateStores⟩,⟨10,.phase⟩], none⟩) (v := .slice (some ⟨g, 0, none⟩) na cap1) (by kernel_rfl) (by kernel_rfl) rfl (by kernel_rfl) (by kernel_rfl) (by kernel_rfl) (fun _ _ _ h => h) (Or.inl ⟨by rfl, ?_⟩) (hSl _ hb1) ?_
      · intro w hSw
        obtain ⟨q0, q1, q2⟩ := hSw
        go_simp
      try simp only [Act.put, List.setIfInBounds_toArray, List.set_cons_zero, List.set_cons_succ]
      have hx0 : (w1).heap[W.heap.size + 1]? = some (.cells #[.int .i64 0, .int .i64 0] 27 (0, 0)) := box_later' (by have := heap_alloc_new (W.drew.alloc (.cells #[] 27)) (.cells #[.int .i64 0, .int .i64 0] 27); simpa using this) hbA
      have x00 : (w1).cell? ⟨W.heap.size + 1, 0, none⟩ = some (.int .i64 0) := by rw [cell_of_row _ _ _ _ _ _ hx0]; rfl
      have x01 : (w1).cell? ⟨W.heap.size + 1, 1, none⟩ = some (.int .i64 0) := by rw [cell_of_row _ _ _ _ _ _ hx0]; rfl
      have x0f := row_free hx0
      obtain ⟨e1, e2, e3⟩ := sd41 (n := na) xv hb1 hown (by rw [List.length_drop]; omega) (by omega) (Nat.le_refl _) (show W.heap.size ≤ W.heap.size + 1 from (by show W.heap.size ≤ W.heap.size + 1; omega)) (by have h2 : ((W.drew.alloc (.cells #[] 27)).alloc (.cells #[.int .i64 0, .int .i64 0] 27)).heap.size = W.heap.size + 2 := (by simp); have h3 : W.drew.heap.size = W.heap.size := rfl; rw [h2] at hgB; omega) hx0
      have hgg : W.heap.size ≤ W.heap.size + 1 := (by show W.heap.size ≤ W.heap.size + 1; omega)
      refine wpAnyM_ready (rs := [12]) (by kernel_rfl) (by simp) ?_
      intro i hi
      simp only [List.mem_cons, List.not_mem_nil, or_false] at hi
      subst hi
      refine stepM (o := ⟨none, .store 27 (.tmp 20) (.tmp 201), 0, "ref.go:108", #[⟨10,.data⟩,⟨9,.data⟩,⟨11,.chain⟩,⟨0,.phase⟩,⟨1,.phase⟩,⟨2,.phase⟩,⟨3,.phase⟩,⟨4,.phase⟩,⟨5,.phase⟩,⟨6,.phase⟩,⟨7,.phase⟩,⟨8,.phase⟩,⟨9,.phase⟩,⟨10,.phase⟩,⟨11,.phase⟩], none⟩) rfl (fun K' hK => ?_)
      go_simp
      refine hK _ _ (fun h => absurd h (by decide)) ?_
      clear hK K'
      try simp only [Act.put, List.setIfInBounds_toArray, List.set_cons_zero, List.set_cons_succ]
      refine wpAnyM_done (by kernel_rfl) ?_ _
      try simp only [Act.put, List.setIfInBounds_toArray, List.set_cons_zero, List.set_cons_succ]
      have HE1 := hid e1
      have HE2 := hid e2
      have HE3 := hid e3
      clear e1 e2 e3 hSl hS0 hF1 x00 x01 x0f hx0
      go_upto_region 42 with (fail)
      exact br14b HH.out HOP.out (sd_mk HB1.out hWl2 hxb HE1.out HE2.out HE3.out hgg HN.out.1 HN.out.2.1 HN.out.2.2) (by assumption) (by assumption)
  · subst hi
    refine stepM (o := ⟨some 20, .alloc 27, 0, "ref.go:108", #[], none⟩) rfl (fun K' hK => ?_)
    have hbz : Below W.heap.size W (W.drew.alloc (.cells #[.int .i64 0, .int .i64 0] 27)) := nstep (Below.refl _ W).drew (bel1 _ _)
    go_simp
    refine hK _ _ (fun _ => hSl _ hbz) ?_
    clear hK K'
    try simp only [Act.put, List.setIfInBounds_toArray, List.set_cons_zero, List.set_cons_succ]
    refine wpAnyM_ready (rs := [0]) (by kernel_rfl) (by simp) ?_
    intro i hi
    simp only [List.mem_cons, List.not_mem_nil, or_false] at hi
    subst hi
    refine stepM (o := ⟨some 192, .buildSlice 28 0 #[], 28, "ref.go:108", #[], none⟩) rfl (fun K' hK => ?_)
    replace hbz : Below W.heap.size W ((W.drew.alloc (.cells #[.int .i64 0, .int .i64 0] 27)).alloc (.cells #[] 27)) := nstep hbz (bel1 _ _)
    go_simp
    refine hK _ _ (fun _ => hSl _ hbz) ?_
    clear hK K'
    try simp only [Act.put, List.setIfInBounds_toArray, List.set_cons_zero, List.set_cons_succ]
    refine wpAnyM_ready (rs := [4]) (by kernel_rfl) (by simp) ?_
    intro i hi
    simp only [List.mem_cons, List.not_mem_nil, or_false] at hi
    subst hi
    refine stepM (o := ⟨some 196, .call ⟨.builtin .append, #[.tmp 192, .tmp 195], #[28, 28]⟩, 28, "ref.go:108", #[⟨0,.data⟩,⟨3,.data⟩], none⟩) rfl (fun K' hK => ?_)
    obtain ⟨g, cap1, w1, hrun1, hown, hgB, hgl, hbA⟩ := run_append_src (w := (W.drew.alloc (.cells #[.int .i64 0, .int .i64 0] 27)).alloc (.cells #[] 27)) 28 28 27 _ 2 16 Try.underlying28 info27 rfl (by omega) (by omega) (W.drew.heap.size + 1) (by have := heap_alloc_new (W.drew.alloc (.cells #[.int .i64 0, .int .i64 0] 27)) (.cells #[] 27); simpa using this) ad na (sc - (nn + 1)) (vcells (f.stack.drop (nn + 1))) hvl (fun j u hj => by obtain ⟨b, e, h⟩ := HV.out j u hj; exact ⟨b, e, cell_later hbz h⟩) (by omega)
    have hb1 : Below W.heap.size W w1 := nstep hbz hbA
    refine step_append_run rfl (.tmp 192) (.tmp 195) 28 rfl (.slice (some ⟨W.drew.heap.size + 1, 0, none⟩) 0 0) (.slice ad na (sc - (nn + 1))) (.slice (some ⟨g, 0, none⟩) na cap1) (by simp [Act.eval, Act.put]) (by simp [Act.eval, Act.put]) hrun1 ?_
    refine hK _ _ (fun _ => hSl _ hb1) ?_
    clear hK K'
    try simp only [Act.put, List.setIfInBounds_toArray, List.set_cons_zero, List.set_cons_succ]
    refine wpAnyM_take (i := 11) (oi := ⟨some 19, .assign (.tmp 196), 28, "ref.go:108", #[⟨4,.data⟩,⟨4,.chain⟩,⟨0,.phase⟩,⟨1,.phase⟩,⟨2,.phase⟩,⟨3,.phase⟩,⟨4,.phase⟩,⟨5, .textOnly .lateStores⟩,⟨6, .textOnly .lateStores⟩,⟨7, .textOnly .lateStores⟩,⟨8, .textOnly .lateStores⟩,⟨9, .textOnly .lateStores⟩,⟨10,.phase⟩], none⟩) (v := .slice (some ⟨g, 0, none⟩) na cap1) (by kernel_rfl) (by kernel_rfl) rfl (by kernel_rfl) (by kernel_rfl) (by kernel_rfl) (fun _ _ _ h => h) (Or.inl ⟨by rfl, ?_⟩) (hSl _ hb1) ?_
    · intro w hSw
      obtain ⟨q0, q1, q2⟩ := hSw
      go_simp
    try simp only [Act.put, List.setIfInBounds_toArray, List.set_cons_zero, List.set_cons_succ]
    have hx0 : (w1).heap[W.heap.size]? = some (.cells #[.int .i64 0, .int .i64 0] 27 (0, 0)) := box_later' (box_later' (heap_alloc_new W.drew (.cells #[.int .i64 0, .int .i64 0] 27)) (bel1 _ _)) hbA
    have x00 : (w1).cell? ⟨W.heap.size, 0, none⟩ = some (.int .i64 0) := by rw [cell_of_row _ _ _ _ _ _ hx0]; rfl
    have x01 : (w1).cell? ⟨W.heap.size, 1, none⟩ = some (.int .i64 0) := by rw [cell_of_row _ _ _ _ _ _ hx0]; rfl
    have x0f := row_free hx0
    obtain ⟨e1, e2, e3⟩ := sd41 (n := na) xv hb1 hown (by rw [List.length_drop]; omega) (by omega) (by show W.heap.size ≤ W.heap.size + 1; omega) (show W.heap.size ≤ W.heap.size from (Nat.le_refl _)) (by have h2 : ((W.drew.alloc (.cells #[.int .i64 0, .int .i64 0] 27)).alloc (.cells #[] 27)).heap.size = W.heap.size + 2 := (by simp); have h3 : W.drew.heap.size = W.heap.size := rfl; rw [h2] at hgB; omega) hx0
    have hgg : W.heap.size ≤ W.heap.size := (Nat.le_refl _)
    refine wpAnyM_ready (rs := [12]) (by kernel_rfl) (by simp) ?_
    intro i hi
    simp only [List.mem_cons, List.not_mem_nil, or_false] at hi
    subst hi
    refine stepM (o := ⟨none, .store 27 (.tmp 20) (.tmp 201), 0, "ref.go:108", #[⟨10,.data⟩,⟨9,.data⟩,⟨11,.chain⟩,⟨0,.phase⟩,⟨1,.phase⟩,⟨2,.phase⟩,⟨3,.phase⟩,⟨4,.phase⟩,⟨5,.phase⟩,⟨6,.phase⟩,⟨7,.phase⟩,⟨8,.phase⟩,⟨9,.phase⟩,⟨10,.phase⟩,⟨11,.phase⟩], none⟩) rfl (fun K' hK => ?_)
    go_simp
    refine hK _ _ (fun h => absurd h (by decide)) ?_
    clear hK K'
    try simp only [Act.put, List.setIfInBounds_toArray, List.set_cons_zero, List.set_cons_succ]
    refine wpAnyM_done (by kernel_rfl) ?_ _
    try simp only [Act.put, List.setIfInBounds_toArray, List.set_cons_zero, List.set_cons_succ]
    have HE1 := hid e1
    have HE2 := hid e2
    have HE3 := hid e3
    clear e1 e2 e3 hSl hS0 hF1 x00 x01 x0f hx0
    go_upto_region 42 with (fail)
    exact br14b HH.out HOP.out (sd_mk HB1.out hWl2 hxb HE1.out HE2.out HE3.out hgg HN.out.1 HN.out.2.1 HN.out.2.2) (by assumption) (by assumption)
end Go.Proofs.Ytfdonemehiamjaa
