/- A part. -/
import Derived.Test.YtapbeiccodnniaaGreatM32
namespace Go.Proofs.YtapbeiccodnniaaGreat
open Go.ChangeShapes Go.WideShapes Go.ChangeAt Go.RowKit
set_option linter.unusedSimpArgs false
set_option linter.unusedVariables false
set_option maxHeartbeats 8000000
set_option maxRecDepth 8000
def xoC:Code:=(Code.region 42 #[
  ⟨some 202,.load 28 (.tmp 12),28,"ref.go:109",#[],none⟩,
  ⟨some 203,.move (.tmp 18),3,"ref.go:109",#[],none⟩,
  ⟨some 204,.binOp .sub 3 (.tmp 203) (.const (.int .i64 1)) 3,3,"ref.go:109",#[⟨1,.data⟩],none⟩,
  ⟨some 205,.slice 28 (.tmp 202) none (some (.tmp 204)) none,28,"ref.go:109",#[⟨0,.data⟩,⟨2,.data⟩],none⟩,
  ⟨none,.store 28 (.tmp 12) (.tmp 205),0,"ref.go:109",#[⟨3,.data⟩,⟨0,.phase⟩,⟨1,.phase⟩,⟨2,.phase⟩,⟨3,.phase⟩],none⟩] false)
def sd43:Code:=((Code.region 43 #[
  ⟨some 206,.move (.tmp 0),47,"ref.go:110",#[],none⟩,
  ⟨some 207,.nilCheck (.tmp 206),0,"ref.go:110",#[⟨0,.data⟩],none⟩,
  ⟨some 208,.fieldAddr 89 (.tmp 207) 0,0,"ref.go:110",#[⟨1,.data⟩],none⟩,
  ⟨some 209,.fieldAddr 25 (.tmp 208) 1,0,"ref.go:110",#[⟨2,.data⟩],none⟩,
  ⟨some 210,.load 23 (.tmp 209),23,"ref.go:110",#[⟨3,.data⟩],none⟩,
  ⟨some 211,.load 27 (.tmp 20),27,"ref.go:110",#[],none⟩,
  ⟨some 212,.call ⟨.value (.func 34),#[.tmp 210,.tmp 211],#[23,27]⟩,3,"ref.go:110",#[⟨4,.data⟩,⟨5,.data⟩],none⟩,
  ⟨some 21,.assign (.tmp 212),3,"ref.go:110",#[⟨6,.data⟩,⟨6,.chain⟩,⟨0,.phase⟩,⟨1,.phase⟩,⟨2,.phase⟩,⟨3,.phase⟩,⟨4,.phase⟩,⟨5,.phase⟩,⟨6,.phase⟩],none⟩] true).seq ((Code.region 44 #[
  ⟨some 213,.move (.tmp 0),47,"ref.go:111",#[],none⟩,
  ⟨some 214,.move (.tmp 0),47,"ref.go:111",#[⟨22,.gcOnly .lateStores⟩],none⟩,
  ⟨some 215,.move (.tmp 0),47,"ref.go:111",#[],none⟩,
  ⟨some 216,.nilCheck (.tmp 215),0,"ref.go:111",#[⟨2,.data⟩],none⟩,
  ⟨some 217,.fieldAddr 89 (.tmp 216) 6,0,"ref.go:111",#[⟨3,.data⟩],none⟩,
  ⟨some 218,.load 86 (.tmp 217),86,"ref.go:111",#[⟨4,.data⟩],none⟩,
  ⟨some 219,.move (.tmp 1),3,"ref.go:111",#[],none⟩,
  ⟨some 220,.fieldAddr 59 (.tmp 7) 0,0,"ref.go:111",#[],none⟩,
  ⟨some 221,.load 9 (.tmp 220),9,"ref.go:111",#[⟨7,.data⟩],none⟩,
  ⟨some 222,.move (.tmp 14),3,"ref.go:111",#[],none⟩,
  ⟨some 223,.build 67 #[(0,.tmp 219),(1,.tmp 221),(2,.tmp 222)],67,"ref.go:111",#[⟨6,.data⟩,⟨8,.data⟩,⟨9,.data⟩],none⟩,
  ⟨some 224,.buildSlice 86 1 #[(0,.tmp 223)],86,"ref.go:111",#[⟨10,.data⟩],none⟩,
  ⟨some 225,.call ⟨.builtin .append,#[.tmp 218,.tmp 224],#[86,86]⟩,86,"ref.go:111",#[⟨5,.data⟩,⟨11,.data⟩],none⟩,
  ⟨some 226,.move (.tmp 0),47,"ref.go:111",#[],none⟩,
  ⟨some 227,.nilCheck (.tmp 226),0,"ref.go:111",#[⟨13,.data⟩],none⟩,
  ⟨some 228,.fieldAddr 89 (.tmp 227) 7,0,"ref.go:111",#[⟨14,.data⟩],none⟩,
  ⟨some 229,.load 87 (.tmp 228),87,"ref.go:111",#[⟨15,.data⟩],none⟩,
  ⟨some 230,.move (.tmp 21),3,"ref.go:111",#[],none⟩,
  ⟨some 231,.buildSlice 87 1 #[(0,.tmp 230)],87,"ref.go:111",#[⟨17,.data⟩],none⟩,
  ⟨some 232,.call ⟨.builtin .append,#[.tmp 229,.tmp 231],#[87,87]⟩,87,"ref.go:111",#[⟨16,.data⟩,⟨18,.data⟩,⟨12,.chain⟩],none⟩,
  ⟨some 233,.nilCheck (.tmp 213),0,"ref.go:111",#[⟨0,.data⟩,⟨0,.phase⟩,⟨1,.textOnly .lateStores⟩,⟨2,.phase⟩,⟨3,.phase⟩,⟨4,.phase⟩,⟨5,.phase⟩,⟨6,.phase⟩,⟨7,.phase⟩,⟨8,.phase⟩,⟨9,.phase⟩,⟨10,.phase⟩,⟨11,.phase⟩,⟨12,.phase⟩,⟨13,.textOnly .lateStores⟩,⟨14,.textOnly .lateStoresUnsure⟩,⟨15,.textOnly .lateStoresUnsure⟩,⟨16,.phase⟩,⟨17,.textOnly .lateStores⟩,⟨18,.textOnly .lateStoresUnsure⟩,⟨19,.phase⟩],none⟩,
  ⟨some 234,.fieldAddr 89 (.tmp 233) 6,0,"ref.go:111",#[⟨20,.data⟩,⟨0,.phase⟩,⟨1,.textOnly .lateStores⟩,⟨2,.phase⟩,⟨3,.phase⟩,⟨4,.phase⟩,⟨5,.phase⟩,⟨6,.phase⟩,⟨7,.phase⟩,⟨8,.phase⟩,⟨9,.phase⟩,⟨10,.phase⟩,⟨11,.phase⟩,⟨12,.phase⟩,⟨13,.textOnly .lateStores⟩,⟨14,.textOnly .lateStoresUnsure⟩,⟨15,.textOnly .lateStoresUnsure⟩,⟨16,.phase⟩,⟨17,.textOnly .lateStores⟩,⟨18,.textOnly .lateStoresUnsure⟩,⟨19,.phase⟩],none⟩,
  ⟨none,.store 86 (.tmp 234) (.tmp 225),0,"ref.go:111",#[⟨21,.data⟩,⟨12,.data⟩,⟨19,.chain⟩,⟨0,.phase⟩,⟨1,.textOnly .lateStores⟩,⟨2,.phase⟩,⟨3,.phase⟩,⟨4,.phase⟩,⟨5,.phase⟩,⟨6,.phase⟩,⟨7,.phase⟩,⟨8,.phase⟩,⟨9,.phase⟩,⟨10,.phase⟩,⟨11,.phase⟩,⟨12,.phase⟩,⟨13,.textOnly .lateStores⟩,⟨14,.textOnly .lateStoresUnsure⟩,⟨15,.textOnly .lateStoresUnsure⟩,⟨16,.phase⟩,⟨17,.textOnly .lateStores⟩,⟨18,.textOnly .lateStoresUnsure⟩,⟨19,.phase⟩],none⟩,
  ⟨some 235,.nilCheck (.tmp 214),0,"ref.go:111",#[⟨1,.data⟩,⟨0,.phase⟩,⟨1,.phase⟩,⟨2,.phase⟩,⟨3,.phase⟩,⟨4,.phase⟩,⟨5,.phase⟩,⟨6,.phase⟩,⟨7,.phase⟩,⟨8,.phase⟩,⟨9,.phase⟩,⟨10,.phase⟩,⟨11,.phase⟩,⟨12,.phase⟩,⟨13,.phase⟩,⟨14,.phase⟩,⟨15,.phase⟩,⟨16,.phase⟩,⟨17,.phase⟩,⟨18,.phase⟩,⟨19,.phase⟩,⟨20,.phase⟩,⟨21,.phase⟩,⟨22,.phase⟩],none⟩,
  ⟨some 236,.fieldAddr 89 (.tmp 235) 7,0,"ref.go:111",#[⟨23,.data⟩,⟨0,.phase⟩,⟨1,.phase⟩,⟨2,.phase⟩,⟨3,.phase⟩,⟨4,.phase⟩,⟨5,.phase⟩,⟨6,.phase⟩,⟨7,.phase⟩,⟨8,.phase⟩,⟨9,.phase⟩,⟨10,.phase⟩,⟨11,.phase⟩,⟨12,.phase⟩,⟨13,.phase⟩,⟨14,.phase⟩,⟨15,.phase⟩,⟨16,.phase⟩,⟨17,.phase⟩,⟨18,.phase⟩,⟨19,.phase⟩,⟨20,.phase⟩,⟨21,.phase⟩,⟨22,.phase⟩],none⟩,
  ⟨none,.store 87 (.tmp 236) (.tmp 232),0,"ref.go:111",#[⟨24,.data⟩,⟨19,.data⟩,⟨22,.chain⟩,⟨0,.phase⟩,⟨1,.phase⟩,⟨2,.phase⟩,⟨3,.phase⟩,⟨4,.phase⟩,⟨5,.phase⟩,⟨6,.phase⟩,⟨7,.phase⟩,⟨8,.phase⟩,⟨9,.phase⟩,⟨10,.phase⟩,⟨11,.phase⟩,⟨12,.phase⟩,⟨13,.phase⟩,⟨14,.phase⟩,⟨15,.phase⟩,⟨16,.phase⟩,⟨17,.phase⟩,⟨18,.phase⟩,⟨19,.phase⟩,⟨20,.phase⟩,⟨21,.phase⟩,⟨22,.phase⟩],none⟩] true).seq ((Code.region 45 #[
  ⟨some 238,.move (.tmp 0),47,"ref.go:112",#[],none⟩,
  ⟨some 239,.nilCheck (.tmp 238),0,"ref.go:112",#[⟨0,.data⟩],none⟩,
  ⟨some 240,.fieldAddr 89 (.tmp 239) 0,0,"ref.go:112",#[⟨1,.data⟩],none⟩,
  ⟨some 241,.load 25 (.tmp 240),25,"ref.go:112",#[⟨2,.data⟩],none⟩,
  ⟨some 242,.move (.tmp 21),3,"ref.go:112",#[],none⟩,
  ⟨some 243,.fieldAddr 76 (.tmp 15) 4,0,"ref.go:112",#[],none⟩,
  ⟨some 244,.load 9 (.tmp 243),9,"ref.go:112",#[⟨5,.data⟩],none⟩,
  ⟨some 245,.call ⟨.value (.func 19),#[.tmp 241,.tmp 242,.tmp 244],#[25,3,9]⟩,73,"ref.go:112",#[⟨3,.data⟩,⟨4,.data⟩,⟨6,.data⟩],none⟩,
  ⟨some 237,.move (.tmp 245),73,"ref.go:112",#[⟨7,.data⟩],none⟩,
  ⟨some 246,.extract (.tmp 237) 0,3,"ref.go:112",#[⟨8,.data⟩],none⟩,
  ⟨some 247,.extract (.tmp 237) 1,3,"ref.go:112",#[⟨8,.data⟩,⟨11,.gcOnly .lateStores⟩],none⟩,
  ⟨some 22,.assign (.tmp 246),3,"ref.go:112",#[⟨9,.data⟩,⟨7,.chain⟩,⟨0,.phase⟩,⟨1,.phase⟩,⟨2,.phase⟩,⟨3,.phase⟩,⟨4,.phase⟩,⟨5,.phase⟩,⟨6,.phase⟩,⟨7,.phase⟩,⟨8,.phase⟩,⟨9,.phase⟩,⟨10,.textOnly .lateStores⟩],none⟩,
  ⟨some 23,.assign (.tmp 247),3,"ref.go:112",#[⟨10,.data⟩,⟨11,.chain⟩,⟨0,.phase⟩,⟨1,.phase⟩,⟨2,.phase⟩,⟨3,.phase⟩,⟨4,.phase⟩,⟨5,.phase⟩,⟨6,.phase⟩,⟨7,.phase⟩,⟨8,.phase⟩,⟨9,.phase⟩,⟨10,.phase⟩,⟨11,.phase⟩],none⟩] true).seq (((Code.region 46 #[
  ⟨some 248,.move (.tmp 23),3,"ref.go:113",#[],none⟩,
  ⟨some 249,.binOp .lss 3 (.tmp 248) (.const (.int .i64 0)) 3,4,"ref.go:113",#[⟨0,.data⟩],none⟩] false).seq (Code.cond (Operand.tmp 249) ((Code.region 47 #[
  ⟨some 250,.move (.tmp 0),47,"ref.go:114",#[],none⟩,
  ⟨some 251,.nilCheck (.tmp 250),0,"ref.go:114",#[⟨0,.data⟩,⟨0,.phase⟩],none⟩,
  ⟨some 252,.fieldAddr 89 (.tmp 251) 5,0,"ref.go:114",#[⟨1,.data⟩,⟨0,.phase⟩],none⟩,
  ⟨none,.store 33 (.tmp 252) (.const (.int .i64 10)),0,"ref.go:114",#[⟨2,.data⟩,⟨0,.phase⟩],none⟩] false).seq (Code.exit 2)) Code.skip)).seq (Code.region 48 #[
  ⟨some 253,.load 28 (.tmp 12),28,"ref.go:117",#[],none⟩,
  ⟨some 254,.move (.tmp 0),47,"ref.go:117",#[],none⟩,
  ⟨some 255,.move (.tmp 22),3,"ref.go:117",#[],none⟩,
  ⟨some 256,.move (.tmp 23),3,"ref.go:117",#[],none⟩,
  ⟨some 257,.load 27 (.tmp 20),27,"ref.go:117",#[],none⟩,
  ⟨some 258,.move (.tmp 19),28,"ref.go:117",#[],none⟩,
  ⟨some 259,.call ⟨.value (.func 35),#[.tmp 254,.tmp 255,.tmp 256,.tmp 257,.tmp 258],#[47,3,3,27,28]⟩,27,"ref.go:117",#[⟨1,.data⟩,⟨2,.data⟩,⟨3,.data⟩,⟨4,.data⟩,⟨5,.data⟩],none⟩,
  ⟨some 260,.buildSlice 28 1 #[(0,.tmp 259)],28,"ref.go:117",#[⟨6,.data⟩],none⟩,
  ⟨some 261,.call ⟨.builtin .append,#[.tmp 253,.tmp 260],#[28,28]⟩,28,"ref.go:117",#[⟨0,.data⟩,⟨7,.data⟩,⟨6,.chain⟩],none⟩,
  ⟨none,.store 28 (.tmp 12) (.tmp 261),0,"ref.go:117",#[⟨8,.data⟩,⟨8,.chain⟩,⟨0,.phase⟩,⟨1,.phase⟩,⟨2,.phase⟩,⟨3,.phase⟩,⟨4,.phase⟩,⟨5,.phase⟩,⟨6,.phase⟩,⟨7,.phase⟩,⟨8,.phase⟩],none⟩] true)))))
def xoP:Code:=(Code.region 45 #[
  ⟨some 238,.move (.tmp 0),47,"ref.go:112",#[],none⟩,
  ⟨some 239,.nilCheck (.tmp 238),0,"ref.go:112",#[⟨0,.data⟩],none⟩,
  ⟨some 240,.fieldAddr 89 (.tmp 239) 0,0,"ref.go:112",#[⟨1,.data⟩],none⟩,
  ⟨some 241,.load 25 (.tmp 240),25,"ref.go:112",#[⟨2,.data⟩],none⟩,
  ⟨some 242,.move (.tmp 21),3,"ref.go:112",#[],none⟩,
  ⟨some 243,.fieldAddr 76 (.tmp 15) 4,0,"ref.go:112",#[],none⟩,
  ⟨some 244,.load 9 (.tmp 243),9,"ref.go:112",#[⟨5,.data⟩],none⟩,
  ⟨some 245,.call ⟨.value (.func 19),#[.tmp 241,.tmp 242,.tmp 244],#[25,3,9]⟩,73,"ref.go:112",#[⟨3,.data⟩,⟨4,.data⟩,⟨6,.data⟩],none⟩,
  ⟨some 237,.move (.tmp 245),73,"ref.go:112",#[⟨7,.data⟩],none⟩,
  ⟨some 246,.extract (.tmp 237) 0,3,"ref.go:112",#[⟨8,.data⟩],none⟩,
  ⟨some 247,.extract (.tmp 237) 1,3,"ref.go:112",#[⟨8,.data⟩,⟨11,.gcOnly .lateStores⟩],none⟩,
  ⟨some 22,.assign (.tmp 246),3,"ref.go:112",#[⟨9,.data⟩,⟨7,.chain⟩,⟨0,.phase⟩,⟨1,.phase⟩,⟨2,.phase⟩,⟨3,.phase⟩,⟨4,.phase⟩,⟨5,.phase⟩,⟨6,.phase⟩,⟨7,.phase⟩,⟨8,.phase⟩,⟨9,.phase⟩,⟨10,.textOnly .lateStores⟩],none⟩,
  ⟨some 23,.assign (.tmp 247),3,"ref.go:112",#[⟨10,.data⟩,⟨11,.chain⟩,⟨0,.phase⟩,⟨1,.phase⟩,⟨2,.phase⟩,⟨3,.phase⟩,⟨4,.phase⟩,⟨5,.phase⟩,⟨6,.phase⟩,⟨7,.phase⟩,⟨8,.phase⟩,⟨9,.phase⟩,⟨10,.phase⟩,⟨11,.phase⟩],none⟩] true)
def sd46:Code:=(((Code.region 46 #[
  ⟨some 248,.move (.tmp 23),3,"ref.go:113",#[],none⟩,
  ⟨some 249,.binOp .lss 3 (.tmp 248) (.const (.int .i64 0)) 3,4,"ref.go:113",#[⟨0,.data⟩],none⟩] false).seq (Code.cond (Operand.tmp 249) ((Code.region 47 #[
  ⟨some 250,.move (.tmp 0),47,"ref.go:114",#[],none⟩,
  ⟨some 251,.nilCheck (.tmp 250),0,"ref.go:114",#[⟨0,.data⟩,⟨0,.phase⟩],none⟩,
  ⟨some 252,.fieldAddr 89 (.tmp 251) 5,0,"ref.go:114",#[⟨1,.data⟩,⟨0,.phase⟩],none⟩,
  ⟨none,.store 33 (.tmp 252) (.const (.int .i64 10)),0,"ref.go:114",#[⟨2,.data⟩,⟨0,.phase⟩],none⟩] false).seq (Code.exit 2)) Code.skip)).seq (Code.region 48 #[
  ⟨some 253,.load 28 (.tmp 12),28,"ref.go:117",#[],none⟩,
  ⟨some 254,.move (.tmp 0),47,"ref.go:117",#[],none⟩,
  ⟨some 255,.move (.tmp 22),3,"ref.go:117",#[],none⟩,
  ⟨some 256,.move (.tmp 23),3,"ref.go:117",#[],none⟩,
  ⟨some 257,.load 27 (.tmp 20),27,"ref.go:117",#[],none⟩,
  ⟨some 258,.move (.tmp 19),28,"ref.go:117",#[],none⟩,
  ⟨some 259,.call ⟨.value (.func 35),#[.tmp 254,.tmp 255,.tmp 256,.tmp 257,.tmp 258],#[47,3,3,27,28]⟩,27,"ref.go:117",#[⟨1,.data⟩,⟨2,.data⟩,⟨3,.data⟩,⟨4,.data⟩,⟨5,.data⟩],none⟩,
  ⟨some 260,.buildSlice 28 1 #[(0,.tmp 259)],28,"ref.go:117",#[⟨6,.data⟩],none⟩,
  ⟨some 261,.call ⟨.builtin .append,#[.tmp 253,.tmp 260],#[28,28]⟩,28,"ref.go:117",#[⟨0,.data⟩,⟨7,.data⟩,⟨6,.chain⟩],none⟩,
  ⟨none,.store 28 (.tmp 12) (.tmp 261),0,"ref.go:117",#[⟨8,.data⟩,⟨8,.chain⟩,⟨0,.phase⟩,⟨1,.phase⟩,⟨2,.phase⟩,⟨3,.phase⟩,⟨4,.phase⟩,⟨5,.phase⟩,⟨6,.phase⟩,⟨7,.phase⟩,⟨8,.phase⟩],none⟩] true))
set_option maxRecDepth 100000
theorem xod {p:Rp}{d:Nat}{T T1:Nat->Nat}{w wr W:World}{mb K:Nat}{R:Mc RSt × QV × Int}{av kv:Value}{gk G':Nat}{m:Mc RSt}{f:Fr}{c:Int}{n1 n2 n3 k:Nat}{x:QI}{hv sv ov:Value}{sa:Option Addr}{sc:Nat}(H:SwC p d T w mb K R av kv gk G' c n1 n2 n3 T1 m f wr W k x hv sv ov sa sc)(hop:x.op=14)
  {V:World} {T4:Nat->Nat} {nn na xb:Nat} {xv:QV} {asv hv4 sv4 ov4:Value} {kl:Int} (hna:x.a=(na:Int)) (hlen:f.stack.length=nn+1+na) (hxv:f.stack[nn]?=some xv) (hkl:xar m.heap xv=kl)
  (hE:Ext T1 T4 wr) (hKp:Kp (All K) T1 wr V) (hB:SdB p d mb K w.heap.size wr.heap.size xb T4 V { m with st:=m.st++[(⟨c,f.meth.name,(k:Int)⟩,kl)] } 0 { f with stack:=f.stack.take nn } x.name xv (f.stack.drop (nn+1)) asv av kv (.slice sa nn sc) hv4 sv4 ov4)
  {u0 u1 u2 u3 u4 u5 u6 ua ub uc ud ue uf ug uh ui uj uk ul um un uo up uq ur us ut uu uv uw ux uy uz ua0 ua1 ua2 ua3 ua4 ua5 ua6 ua7 ua8 ua9 uaa uab uac
  uad uae uaf uag uah uai uaj uak ual uam uan uao uap uaq uar uas uat uau uav uaw uax uay uaz ub0 ub1 ub2 ub3 ub4 ub5 ub6 ub7 ub8 ub9 uba ubb ubc ubd ube ubf ubg ubh ubi ubj ubk
  ubl ubm ubn ubo ubp ubq ubr ubs ubt ubu ubv ubw ubx uby ubz uc0 uc1 uc2 uc3 uc4 uc5 uc6 uc7 uc8 uc9 uca ucb ucc ucd uce ucf ucg uch uci ucj uck
  ucl ucm ucn uco ucp ucq ucr ucs uct ucu ucv ucw ucx ucy ucz ud0 ud1 ud2 ud3 ud4 ud5 ud6 ud7 ud8 ud9 uda udb udc udd ude udf udg udh udi udj udk
  udl udm udn udo udp udq udr uds udt udu udv udw udx udy udz ue0 ue1 ue2 ue3 ue4 ue5 ue6 ue7 ue8 ue9 uea ueb uec ued uee uef ueg ueh uei uej uek
  uel uem uen ueo uep ueq uer ues uet ueu uev uew uex uey uez uf0 uf1 uf2 uf3 uf4 uf5 uf6 uf7 uf8 uf9 ufa ufb ufc ufd ufe uff ufg ufh ufi ufj ufk
  ufl ufm ufn ufo ufp ufq ufr ufs uft ufu ufv ufw ufx ufy ufz ug0 ug1 ug2 ug3 ug4 ug5 ug6 ug7 ug8 ug9 uga ugb ugc ugd uge ugf ugg ugh ugi ugj ugk
  ugl ugm ugn ugo ugp ugq ugr ugs ugt ugu ugv ugw ugx ugy ugz uh0 uh1 uh2 uh3:Value}
  {KT K2 K3:Act->World->Prop}
  (hN:∀ (u5 u6 u7 u8 u9 ua ub uc uu uv uw ux uy uz ua0 ua1 ua2 ua3 ua4 ua5 ua6 ua7 ua8 ua9 uaa uab uac uad uae uaf uag uah uai uaj uak ual uam uan uao uap uaq uar uas uat uau
  uav uaw uax uay uaz ub0 ub1 ub2 ub3 ub4 ub5 ub6 ub7 ub8 ub9 uba ubb ubc ubd ube ubf ubg ubh ubi ubj ubk ubl ubm ubn ubo ubp ubq ubr ubs ubt ubu ubv ubw ubx uby
  ubz uc0 uc1 uc2 uc3 uc4 uc5 uc6 uc7 uc8 uc9 uca ucb ucc ucd uce ucf ucg uch uci ucj uck ucl ucm ucn uco ucp ucq ucr ucs uct ucu ucv ucw ucx ucy
  ucz ud0 ud1 ud2 ud3 ud4 ud5 ud6 ud7 ud8 ud9 uda udb udc udd ude udf udg udh udi udj udk udl udm udn udo udp udq udr uds udt udu udv udw udx udy
  udz ue0 ue1 ue2 ue3 ue4 ue5 ue6 ue7 ue8 ue9 uea ueb uec ued uee uef ueg ueh uei uej uek uel uem uen ueo uep ueq uer ues uet ueu uev uew uex uey
  uez uf0 uf1 uf2 uf3 uf4 uf5 uf6 uf7 uf8 uf9 ufa ufb ufc ufd ufe uff ufg ufh ufi ufj ufk ufl ufm ufn ufo ufp ufq ufr ufs uft ufu ufv ufw ufx ufy
  ufz ug0 ug1 ug2 ug3 ug4 ug5 ug6 ug7 ug8 ug9 uga ugb ugc ugd uge ugf ugg ugh ugi ugj:Value) (tg:Int) (w':World),xf0 p d T w mb K R av kv G' c n1 n2 n3 T1 m f wr k x tg w'->KT (Act.mk #[.pointer (some ⟨mb,0,none⟩),.int .i64 c,u0,u1,av,u2,u3,.pointer (some ⟨w.heap.size,0,none⟩),.pointer (some ⟨w.heap.size+1,0,none⟩),u4,.pointer (some
  ⟨w.heap.size+2,0,none⟩),.slice (some ⟨w.heap.size+3,0,none⟩) n2 n2,.pointer (some ⟨w.heap.size+4,0,none⟩),.func (.func 68) #[] #[.pointer (some ⟨w.heap.size+4,0,
  none⟩)],.int .i64 (k:Int),.pointer (some ⟨wr.heap.size,0,none⟩),.int .i64 tg,u5,u6,u7,u8,u9,ua,ub,uc,ud,ue,uf,ug,uh,ui,uj,uk,ul,um,un,
  uo,up,uq,ur,us,ut,.int .i64 14,uu,uv,uw,ux,uy,uz,ua0,ua1,ua2,ua3,ua4,ua5,ua6,ua7,ua8,ua9,uaa,uab,uac,uad,uae,uaf,uag,uah,uai,uaj,uak,
  ual,uam,uan,uao,uap,uaq,uar,uas,uat,uau,uav,uaw,uax,uay,uaz,ub0,ub1,ub2,ub3,ub4,ub5,ub6,ub7,ub8,ub9,uba,ubb,ubc,ubd,ube,ubf,ubg,ubh,ubi,ubj,
  ubk,ubl,ubm,ubn,ubo,ubp,ubq,ubr,ubs,ubt,ubu,ubv,ubw,ubx,uby,ubz,uc0,uc1,uc2,uc3,uc4,uc5,uc6,uc7,uc8,uc9,uca,ucb,ucc,ucd,
  uce,ucf,ucg,uch,uci,ucj,uck,ucl,ucm,ucn,uco,ucp,ucq,ucr,ucs,uct,ucu,ucv,ucw,ucx,ucy,ucz,ud0,ud1,ud2,ud3,ud4,ud5,ud6,ud7,
  ud8,ud9,uda,udb,udc,udd,ude,udf,udg,udh,udi,udj,udk,udl,udm,udn,udo,udp,udq,udr,uds,udt,udu,udv,udw,udx,udy,udz,ue0,ue1,
  ue2,ue3,ue4,ue5,ue6,ue7,ue8,ue9,uea,ueb,uec,ued,uee,uef,ueg,ueh,uei,uej,uek,uel,uem,uen,ueo,uep,ueq,uer,ues,uet,ueu,uev,
  uew,uex,uey,uez,uf0,uf1,uf2,uf3,uf4,uf5,uf6,uf7,uf8,uf9,ufa,ufb,ufc,ufd,ufe,uff,ufg,ufh,ufi,ufj,ufk,ufl,ufm,ufn,ufo,ufp,
  ufq,ufr,ufs,uft,ufu,ufv,ufw,ufx,ufy,ufz,ug0,ug1,ug2,ug3,ug4,ug5,ug6,ug7,ug8,ug9,uga,ugb,ugc,ugd,uge,ugf,ugg,ugh,ugi,ugj,
  ugk,ugl,ugm,ugn,ugo,ugp,ugq,ugr,ugs,ugt,ugu,ugv,ugw,ugx,ugy,ugz,uh0,uh1,uh2,uh3] []) w')
  {K9:Act->World->Prop} (hK9:∀ a w',Code.wp Tryz.prog sd46 (Exit.inBlock 2 (Exit.then KT (Exit.inBlock 1 (Exit.then K2 (Exit.inBlock 0 (Exit.then K3 (bodyPost Tryz.prog Tryz.f52 fun e w'=>xaS p T w mb (20-(d:Int)) K R e w'))))))) a w'->K9 a w') :
  Code.wp Tryz.prog xoP (Exit.then K9 (Exit.inBlock 2 (Exit.then KT (Exit.inBlock 1 (Exit.then K2 (Exit.inBlock 0 (Exit.then K3 (bodyPost Tryz.prog Tryz.f52 fun e w'=>xaS p T w mb (20-(d:Int)) K R e w')))))))) (Act.mk #[.pointer (some ⟨mb,0,none⟩),.int .i64 c,u0,u1,av,u2,u3,.pointer (some ⟨w.heap.size,0,none⟩),.pointer (some ⟨w.heap.size+1,0,none⟩),u4,.pointer (some
  ⟨w.heap.size+2,0,none⟩),.slice (some ⟨w.heap.size+3,0,none⟩) n2 n2,.pointer (some ⟨w.heap.size+4,0,none⟩),.func (.func 68) #[] #[.pointer (some ⟨w.heap.size+4,0,
  none⟩)],.int .i64 (k:Int),.pointer (some ⟨wr.heap.size,0,none⟩),.int .i64 ((k:Int)+1),u5,u6,asv,.pointer (some ⟨xb,0,none⟩),.int .i64 kl,ua,ub,uc,ud,
  ue,uf,ug,uh,ui,uj,uk,ul,um,un,uo,up,uq,ur,us,ut,.int .i64 14,uu,uv,uw,ux,uy,uz,ua0,ua1,ua2,ua3,ua4,ua5,ua6,ua7,ua8,ua9,uaa,
  uab,uac,uad,uae,uaf,uag,uah,uai,uaj,uak,ual,uam,uan,uao,uap,uaq,uar,uas,uat,uau,uav,uaw,uax,uay,uaz,ub0,ub1,ub2,ub3,ub4,ub5,ub6,ub7,ub8,ub9,uba,
  ubb,ubc,ubd,ube,ubf,ubg,ubh,ubi,ubj,ubk,ubl,ubm,ubn,ubo,ubp,ubq,ubr,ubs,ubt,ubu,ubv,ubw,ubx,uby,ubz,uc0,uc1,uc2,uc3,uc4,uc5,
  uc6,uc7,uc8,uc9,uca,ucb,ucc,ucd,uce,ucf,ucg,uch,uci,ucj,uck,ucl,ucm,ucn,uco,ucp,ucq,ucr,ucs,uct,ucu,ucv,ucw,ucx,ucy,ucz,
  ud0,ud1,ud2,ud3,ud4,ud5,ud6,ud7,ud8,ud9,uda,udb,udc,udd,ude,udf,udg,udh,udi,udj,udk,udl,udm,udn,udo,udp,udq,udr,uds,udt,
  udu,udv,udw,udx,udy,udz,ue0,ue1,ue2,ue3,ue4,ue5,ue6,ue7,ue8,ue9,uea,ueb,uec,ued,uee,uef,ueg,ueh,uei,uej,uek,uel,uem,uen,
  ueo,uep,ueq,uer,ues,uet,ueu,uev,uew,uex,uey,uez,uf0,uf1,uf2,uf3,uf4,uf5,uf6,uf7,uf8,uf9,ufa,ufb,ufc,ufd,ufe,uff,ufg,ufh,
  ufi,ufj,ufk,ufl,ufm,ufn,ufo,ufp,ufq,ufr,ufs,uft,ufu,ufv,ufw,ufx,ufy,ufz,ug0,ug1,ug2,ug3,ug4,ug5,ug6,ug7,ug8,ug9,uga,ugb,
  ugc,ugd,uge,ugf,ugg,ugh,ugi,ugj,ugk,ugl,ugm,ugn,ugo,ugp,ugq,ugr,ugs,ugt,ugu,ugv,ugw,ugx,ugy,ugz,uh0,uh1,uh2,uh3] []) V:=by
 obtain⟨hX,hEn,HR0,HG0,HX0,HMa0,HF0,hscap,HL0,hbel,hxb,⟨aa,ca,rfl,hca⟩,ht40,HI0⟩:=H;have HR:=hid HR0;have HG:=hid HG0;have HX:=hid HX0;have HL:=hid HL0;have HI:=hid HI0;have HOP:=hid hop;have HEn:=hid hEn;have HE:=hid hE;have HKp:=hid hKp;have HB:=hid hB;obtain⟨hsc1,hsc2⟩:=hscap;have HN:=hid (And.intro hna (And.intro hlen (And.intro hxv hkl)));have hfw:f.stack.length<=12:=HX0.few;have hp5:=hB.fr.pos;have hnl:nn+1+na<=12:=by omega
 have hcl:f.cls=c:=HL0.1;obtain⟨hI0,hW0,hFo0,hPl0⟩:=HI0;have hSv:∀ r,xa1 p.E d { m with st:=m.st++[(⟨c,f.meth.name,(k:Int)⟩,kl)] } (xaw p.X.cz kl x.name).1 (xaw p.X.cz kl x.name).2 xv (f.stack.drop (nn+1))=r->Hid (xan (xa1 p.E d) p.E d m { f with pc:=f.pc+1 } f.pc x=if r.2.2≠0 then (r.1,{ f with pc:=f.pc+1 },r.2.2) else (r.1,{ f with pc:=f.pc+1,stack:=f.stack.take nn++[r.2.1] },0)):=fun r hr=>xmc HX0 hop hPl0.fast hcl hna hlen hxv hkl hr
 have HSv:=hid hSv;have hm4:MIn p.E { m with st:=m.st++[(⟨c,f.meth.name,(k:Int)⟩,kl)] }:=⟨hI0.heap,hI0.sz_,hI0.turns⟩
 have hfew4:xmP { m with st:=m.st++[(⟨c,f.meth.name,(k:Int)⟩,kl)] }:=by
  unfold xmP;unfold Few at hW0;simp only[List.length_append,List.length_cons,List.length_nil];omega
 have hws:xas m.heap.length xv=0:=hFo0.stack _ (List.mem_of_getElem? hxv);have hwa:VsOk m.heap.length (f.stack.drop (nn+1)):=fun v hv=>hFo0.stack v (List.mem_of_mem_drop hv)
 have HM4:=hid (And.intro hm4 (And.intro hfew4 (And.intro hws hwa)));clear HR0 HG0 HX0 HMa0 HF0 HL0 hop hbel hEn hE hKp hI0 hW0 hFo0 hPl0 hna hlen hxv hkl hcl hSv hm4 hfew4 hws hwa hxb;unfold xoP;unfold sd46 at hK9;obtain⟨ac,cc,hcv,-⟩:=id hB.mac.cls;obtain⟨ah,ch,rfl,-⟩:=id hB.mac.heap;have hSl:∀ w',Below V.heap.size V w'->w'.cell? ⟨mb,0,none⟩=some (.slice ac p.X.cz.length cc)/\w'.cell? ⟨mb,1,none⟩=some (.slice ah m.heap.length ch)/\w'.cell? ⟨mb,2,none⟩=some (.int .i64 p.X.ez)/\w'.cell? ⟨wr.heap.size,4,none⟩=some (.string x.name):=fun w' hb=>⟨by rw[← hcv];exact qzA hb hB.mac.c0,qzA hb hB.mac.c1,qzA hb hB.mac.c2,qzA hb hB.nm⟩
 have hS0:=hSl _ (qzL _ V).drew;refine xaY (S:=fun w'=>w'.cell? ⟨mb,0,none⟩=some (.slice ac p.X.cz.length cc)/\w'.cell? ⟨mb,1,none⟩=some (.slice ah m.heap.length ch)/\w'.cell? ⟨mb,2,none⟩=some (.int .i64 p.X.ez)/\w'.cell? ⟨wr.heap.size,4,none⟩=some (.string x.name)) [] (by kernel_rfl) ?_
 refine tj 0 (⟨some 238,.move (.tmp 0),47,_,_,none⟩) (.pointer (some ⟨mb,0,none⟩)) (hS0) ?_ ?_
 ·rintro w⟨q0,q1,q2,q3⟩;go_simp
 try simp only[Act.put,qzF,qzG,qzH]
 refine tj 1 (⟨some 239,.nilCheck (.tmp 238),0,_,_,none⟩) (.pointer (some ⟨mb,0,none⟩)) (hS0) ?_ ?_
 ·rintro w⟨q0,q1,q2,q3⟩;go_simp
 try simp only[Act.put,qzF,qzG,qzH]
 refine tj 2 (⟨some 240,.fieldAddr 89 (.tmp 239) 0,0,_,_,none⟩) (.pointer (some ⟨mb,0,none⟩)) (hS0) ?_ ?_
 ·rintro w⟨q0,q1,q2,q3⟩;go_simp
 try simp only[Act.put,qzF,qzG,qzH]
 refine tj 3 (⟨some 241,.load 25 (.tmp 240),25,_,_,none⟩) (WV (.slice ac p.X.cz.length cc) (.slice ah m.heap.length ch) p.X.ez) (hS0) ?_ ?_
 ·rintro w⟨q0,q1,q2,q3⟩;go_simp
 try simp only[Act.put,qzF,qzG,qzH]
 refine tj 4 (⟨some 242,.move (.tmp 21),3,_,_,none⟩) (.int .i64 kl) (hS0) ?_ ?_
 ·rintro w⟨q0,q1,q2,q3⟩;go_simp
 try simp only[Act.put,qzF,qzG,qzH]
 refine tj 5 (⟨some 243,.fieldAddr 76 (.tmp 15) 4,0,_,_,none⟩) (.pointer (some ⟨wr.heap.size,4,none⟩)) (hS0) ?_ ?_
 ·rintro w⟨q0,q1,q2,q3⟩;go_simp
 try simp only[Act.put,qzF,qzG,qzH]
 refine tj 6 (⟨some 244,.load 9 (.tmp 243),9,_,_,none⟩) (.string x.name) (hS0) ?_ ?_
 ·rintro w⟨q0,q1,q2,q3⟩;go_simp
 try simp only[Act.put,qzF,qzG,qzH]
 refine xag (rs:=[7]) (by kernel_rfl) (by simp) ?_
 intro i hi;simp only[List.mem_cons,List.not_mem_nil,or_false] at hi;subst hi;refine xa6 (o:=⟨some 245,.call ⟨.value (.func 19),#[.tmp 241,.tmp 242,.tmp 244],#[25,3,9]⟩,73,_,_,none⟩) rfl (fun K' hK=>?_)
 refine xbv rfl 19 (.func 19) #[.tmp 241,.tmp 242,.tmp 244] _ rfl #[] rfl #[WV (.slice ac p.X.cz.length cc) (.slice ah m.heap.length ch) p.X.ez,.int .i64 kl,.string x.name] (by simp[Act.eval,Act.put]) (cf22 _ _) ?_
 refine (show Calls Tryz.prog 19 #[WV (.slice ac p.X.cz.length cc) (.slice ah m.heap.length ch) p.X.ez,.int .i64 kl,.string x.name] V.drew _ from (xhs ⟨p.X.cz,m.heap,p.X.ez⟩ kl x.name _ _ V.drew (by rw[← hcv];exact (hB.mac.cls.later xaz (qzL _ V).drew)) (hB.mac.heap.later xaD (qzL _ V).drew)).mono ?_)
 rintro e w1 ⟨rfl,hbF⟩;refine⟨_,rfl,?_⟩;refine hK _ _ (fun _=>hSl _ (xah (qzL _ V).drew hbF)) ?_
 clear hK K'
 try simp only[Act.put,qzF,qzG,qzH]
 refine tj 8 (⟨some 237,.move (.tmp 245),73,_,_,none⟩) (.tuple #[.int .i64 (xaw p.X.cz kl x.name).1,.int .i64 (xaw p.X.cz kl x.name).2]) (hSl _ (xah (qzL _ V).drew hbF)) ?_ ?_
 ·rintro w⟨q0,q1,q2,q3⟩;go_simp
 try simp only[Act.put,qzF,qzG,qzH]
 refine tj 9 (⟨some 246,.extract (.tmp 237) 0,3,_,_,none⟩) (.int .i64 (xaw p.X.cz kl x.name).1) (hSl _ (xah (qzL _ V).drew hbF)) ?_ ?_
 ·rintro w⟨q0,q1,q2,q3⟩;go_simp
 try simp only[Act.put,qzF,qzG,qzH]
 refine tj 10 (⟨some 247,.extract (.tmp 237) 1,3,_,_,none⟩) (.int .i64 (xaw p.X.cz kl x.name).2) (hSl _ (xah (qzL _ V).drew hbF)) ?_ ?_
 ·rintro w⟨q0,q1,q2,q3⟩;go_simp
 try simp only[Act.put,qzF,qzG,qzH]
 refine tj 11 (⟨some 22,.assign (.tmp 246),3,_,_,none⟩) (.int .i64 (xaw p.X.cz kl x.name).1) (hSl _ (xah (qzL _ V).drew hbF)) ?_ ?_
 ·rintro w⟨q0,q1,q2,q3⟩;go_simp
 try simp only[Act.put,qzF,qzG,qzH]
 refine tj 12 (⟨some 23,.assign (.tmp 247),3,_,_,none⟩) (.int .i64 (xaw p.X.cz kl x.name).2) (hSl _ (xah (qzL _ V).drew hbF)) ?_ ?_
 ·rintro w⟨q0,q1,q2,q3⟩;go_simp
 try simp only[Act.put,qzF,qzG,qzH]
 refine xa0 (by kernel_rfl) ?_ _
 try simp only[Act.put,qzF,qzG,qzH]
 have hbV:Below V.heap.size V w1:=xah (qzL _ V).drew hbF;have hB1:=hB.later hbV;have HKp1:Hid (Kp (All K) T1 wr w1):=HKp.out.on hbV;clear hB HB HKp hSl hS0 hbF hbV
 by_cases hj:0<=(xaw p.X.cz kl x.name).2
 ·obtain⟨mt,hmt⟩:=xgO hj;have hj':¬ ((xaw p.X.cz kl x.name).2<0):=by omega
  have hjd:decide ((xaw p.X.cz kl x.name).2<0)=false:=by simpa using hj'
  generalize hR5:xa1 p.E d { m with st:=m.st++[(⟨c,f.meth.name,(k:Int)⟩,kl)] } (xaw p.X.cz kl x.name).1 (xaw p.X.cz kl x.name).2 xv (f.stack.drop (nn+1))=r
  have HV:=HSv.out r hR5;have HMt:=hid hmt;have HR5:=hid hR5;generalize hfc:(xaw p.X.cz kl x.name).1=fc at *;generalize hfj:(xaw p.X.cz kl x.name).2=fj at *;clear hmt hR5 hfc hfj HSv
  go_upto_region 48 with (fail)
  have hSl:∀ w',Below w1.heap.size w1 w'->w'.cell? ⟨w.heap.size+4,0,none⟩=some (.slice sa nn sc)/\w'.cell? ⟨xb,0,none⟩=some (.int .i64 xv.k)/\w'.cell? ⟨xb,1,none⟩=some (.int .i64 xv.n):=fun w' hb=>⟨qzA hb hB1.fr.st,qzA hb hB1.x0,qzA hb hB1.x1⟩
  have hS0:=hSl _ (qzL _ w1).drew;refine xaY (S:=fun w'=>w'.cell? ⟨w.heap.size+4,0,none⟩=some (.slice sa nn sc)/\w'.cell? ⟨xb,0,none⟩=some (.int .i64 xv.k)/\w'.cell? ⟨xb,1,none⟩=some (.int .i64 xv.n)) [9] (by kernel_rfl) ?_
  refine tj 0 (⟨some 253,.load 28 (.tmp 12),28,_,_,none⟩) (.slice sa nn sc) (hS0) ?_ ?_
  ·rintro w⟨q0,q1,q2⟩;go_simp
  try simp only[Act.put,qzF,qzG,qzH]
  refine tj 1 (⟨some 254,.move (.tmp 0),47,_,_,none⟩) (.pointer (some ⟨mb,0,none⟩)) (hS0) ?_ ?_
  ·rintro w⟨q0,q1,q2⟩;go_simp
  try simp only[Act.put,qzF,qzG,qzH]
  refine tj 2 (⟨some 255,.move (.tmp 22),3,_,_,none⟩) (.int .i64 fc) (hS0) ?_ ?_
  ·rintro w⟨q0,q1,q2⟩;go_simp
  try simp only[Act.put,qzF,qzG,qzH]
  refine tj 3 (⟨some 256,.move (.tmp 23),3,_,_,none⟩) (.int .i64 fj) (hS0) ?_ ?_
  ·rintro w⟨q0,q1,q2⟩;go_simp
  try simp only[Act.put,qzF,qzG,qzH]
  refine tj 4 (⟨some 257,.load 27 (.tmp 20),27,_,_,none⟩) (VV xv) (hS0) ?_ ?_
  ·rintro w⟨q0,q1,q2⟩;go_simp
  try simp only[Act.put,qzF,qzG,qzH]
  refine tj 5 (⟨some 258,.move (.tmp 19),28,_,_,none⟩) (asv) (hS0) ?_ ?_
  ·rintro w⟨q0,q1,q2⟩;go_simp
  try simp only[Act.put,qzF,qzG,qzH]
  refine xag (rs:=[6]) (by kernel_rfl) (by simp) ?_
  intro i hi;simp only[List.mem_cons,List.not_mem_nil,or_false] at hi;subst hi;refine xa6 (o:=⟨some 259,.call ⟨.value (.func 35),#[.tmp 254,.tmp 255,.tmp 256,.tmp 257,.tmp 258],#[47,3,3,27,28]⟩,27,_,_,none⟩) rfl (fun K' hK=>?_)
  have hB1d:=hB1.later (qzL _ w1).drew;refine xbv rfl 35 (.func 35) #[.tmp 254,.tmp 255,.tmp 256,.tmp 257,.tmp 258] _ rfl #[] rfl #[.pointer (some ⟨mb,0,none⟩),.int .i64 fc,.int .i64 fj,VV xv,asv] (by simp[Act.eval,Act.put]) (cf24 _ _) ?_
  refine (show Calls Tryz.prog 35 #[.pointer (some ⟨mb,0,none⟩),.int .i64 fc,.int .i64 fj,VV xv,asv] w1.drew _ from (HEn.out (K+3) T4 w1.drew mb _ _ _ _ fc fj xv _ asv mt (by omega) hB1d.mac HM4.out.1 HM4.out.2.1 HM4.out.2.2.1 HM4.out.2.2.2 hB1d.args HMt.out).mono ?_)
  rw[HR5.out];rintro e w5 ⟨rfl,⟨T5,hv5,sv5,ov5,hE5,hM5⟩,hK5⟩;refine⟨_,rfl,?_⟩;replace hK5:Kp (All (K+3)) T4 w1 w5:=(Kp.of_below (qzL _ w1).drew).trans (.refl _ _) hK5;replace hE5:Ext T4 T5 w1:=hE5;have hB5:=hB1.keep (T':=T5) hE5 hK5 (by unfold All;omega) (by unfold All;omega) (by unfold All;omega) (by unfold All;omega) (by unfold All;omega) hM5
  have hF5:=hB5.fr;have hSl5:∀ w',Below w5.heap.size w5 w'->w'.cell? ⟨w.heap.size+4,0,none⟩=some (.slice sa nn sc)/\w'.cell? ⟨xb,0,none⟩=some (.int .i64 xv.k)/\w'.cell? ⟨xb,1,none⟩=some (.int .i64 xv.n):=fun w' hb=>⟨qzA hb hF5.st,qzA hb hB5.x0,qzA hb hB5.x1⟩
  refine hK _ _ (fun _=>hSl5 _ (qzL _ w5)) ?_
  clear hK K'
  try simp only[Act.put,qzF,qzG,qzH]
  refine xag (rs:=[7]) (by kernel_rfl) (by simp) ?_
  intro i hi;simp only[List.mem_cons,List.not_mem_nil,or_false] at hi;subst hi;refine xa6 (o:=⟨some 260,.buildSlice 28 1 #[(0,.tmp 259)],28,_,_,none⟩) rfl (fun K' hK=>?_)
  go_simp;refine hK _ _ (fun _=>hSl5 _ (xaj _ _)) ?_
  clear hK K'
  try simp only[Act.put,qzF,qzG,qzH]
  refine xag (rs:=[8]) (by kernel_rfl) (by simp) ?_
  intro i hi;simp only[List.mem_cons,List.not_mem_nil,or_false] at hi;subst hi;refine xa6 (o:=⟨some 261,.call ⟨.builtin .append,#[.tmp 253,.tmp 260],#[28,28]⟩,28,_,_,none⟩) rfl (fun K' hK=>?_)
  have hst:ownsAt (w5.alloc (.cells #[.int .i64 r.2.1.k,.int .i64 r.2.1.n] 27)) 0 27 2 (.slice sa nn sc) nn (xal (f.stack.take nn)):=by
   have:=hF5.stack.alloc (.cells #[.int .i64 r.2.1.k,.int .i64 r.2.1.n] 27);rw[show ({ f with stack:=f.stack.take nn }:Fr).stack.length=nn from by show (f.stack.take nn).length=nn;rw[List.length_take];have:=HN.out.2.1;omega] at this
   exact this
  obtain⟨v',w',hrun,r1,r2,r3,r4⟩:=xaF (w:=w5.alloc (.cells #[.int .i64 r.2.1.k,.int .i64 r.2.1.n] 27)) 28 28 27 _ 2 16 Tryz.underlying28 xbW rfl (by omega) 0 nn (.slice sa nn sc) (xal (f.stack.take nn)) hst w5.heap.size [.int .i64 r.2.1.k,.int .i64 r.2.1.n] rfl (qzJ w5 _) (by intro u hu;simp only[List.mem_cons,List.not_mem_nil,or_false] at hu;rcases hu with h | h<;>(subst h;rfl)) (by unfold maxLen;omega) (by omega) (by omega)
  obtain⟨a',cap',rfl,-⟩:=r1.form;obtain⟨d0,df⟩:=xbR hF5 (xaj _ _) r4;refine xat rfl (.tmp 253) (.tmp 260) 28 rfl (.slice sa nn sc) (.slice (some ⟨w5.heap.size,0,none⟩) 1 1) (.slice a' (nn+1) cap') (by simp[Act.eval,Act.put]) (by simp[Act.eval,Act.put]) hrun ?_
  have tx5:T5 xb=0:=hB5.tx
  have hSa:w'.cell? ⟨w.heap.size+4,0,none⟩=some (.slice sa nn sc)/\w'.cell? ⟨xb,0,none⟩=some (.int .i64 xv.k)/\w'.cell? ⟨xb,1,none⟩=some (.int .i64 xv.n):=by
   obtain⟨z0,z1,z2⟩:=hSl5 _ (xaj w5 (.cells #[.int .i64 r.2.1.k,.int .i64 r.2.1.n] 27))
   exact⟨d0,xcD hF5 r4 (fun _=>by rw[tx5];omega) z1,xcD hF5 r4 (fun _=>by rw[tx5];omega) z2⟩
  refine hK _ _ (fun _=>hSa) ?_
  clear hK K'
  try simp only[Act.put,qzF,qzG,qzH]
  refine xag (rs:=[9]) (by kernel_rfl) (by simp) ?_
  intro i hi;simp only[List.mem_cons,List.not_mem_nil,or_false] at hi;subst hi;refine xa6 (o:=⟨none,.store 28 (.tmp 12) (.tmp 261),0,_,_,none⟩) rfl (fun K' hK=>?_)
  go_simp;refine hK _ _ (fun h=>absurd h (by decide)) ?_
  clear hK K'
  try simp only[Act.put,qzF,qzG,qzH]
  refine xa0 (by kernel_rfl) ?_ _
  try simp only[Act.put,qzF,qzG,qzH]
  have hll:(f.stack.take nn++[r.2.1]).length=nn+1:=by have:=HN.out.2.1;simp[List.length_take];omega
  obtain⟨⟨T6,g1,g2⟩,g3⟩:=hF5.pushed (vs:=[r.2.1]) (xaj _ _) (by simp;omega) (by show ownsAt w' 0 27 2 _ (f.stack.take nn++[r.2.1]).length _;rw[hll];simpa [xal] using r1) r2 r3 r4
  have hM6:=hM5.keep g1 g3 (by omega) (by omega) (by omega) (by omega)
  have hE6:Ext T1 T6 wr:=HE.out.trans HKp1.out.size (hE5.trans hK5.size g1);have hK6:Kp (All K) T1 wr _:=HKp1.out.trans HE.out ((xdB hK5 fun t ht=>by unfold All at ht;omega).trans hE5 (xdB g3 fun t ht=>by omega))
  have G2:=hid g2;have HM6:=hid hM6;have HE6:=hid hE6;have HK6:=hid hK6;clear g1 g2 g3 hM6 hE6 hK6 r1 r2 r3 r4 hF5 hM5 hE5 hK5 hB5 hSl5 d0 df hB1;go_wp2
  exact Or.inl ⟨rfl,xiG hX HR.out HG.out HX.out HOP.out HL.out HV.out HE6.out HK6.out HM6.out (fun _=>G2.out)⟩
 ·have hj':(xaw p.X.cz kl x.name).2<0:=by omega
  have HV:=HSv.out _ (xiF hj);have c7:=hB1.mac.c7;have cf7:=xam hB1.mac.box;have HN7:=hid (hB1.mac.num7 10);have HT7:=hid hB1.mac.tag;have HK7:Hid (Kp (All K) T1 wr (w1.setCell ⟨mb,7,none⟩ (.int .i64 10))):=HKp1.out.trans HE.out ((kp1 hB1.mac 7 (.int .i64 10)).mono fun t h=>Or.inl h)
  clear hB1 HSv hj;go_wp2
  exact Or.inl ⟨rfl,xiG (r:=({ m with st:=m.st++[(⟨c,f.meth.name,(k:Int)⟩,kl)] },xaU,10)) (st:=.slice none 0 0) hX HR.out HG.out HX.out HOP.out HL.out HV.out HE.out HK7.out HN7.out (fun h=>absurd (show (10:Int)=0 from h) (by decide))⟩
end Go.Proofs.YtapbeiccodnniaaGreat
