/- A part. -/
import Derived.Test.YtapbeiccodnniaaGreatM28
namespace Go.Proofs.YtapbeiccodnniaaGreat
open Go.ChangeShapes Go.WideShapes Go.ChangeAt Go.RowKit
set_option linter.unusedSimpArgs false
set_option linter.unusedVariables false
set_option maxHeartbeats 8000000
set_option maxRecDepth 8000
def xdw:Code:=(Code.region 9 #[
  ⟨some 44,.binOp .eql 3 (.tmp 42) (.const (.int .i64 1)) 3,4,"ref.go:74",#[],none⟩,
  ⟨some 43,.assign (.tmp 44),4,"ref.go:74",#[⟨0,.data⟩],none⟩] false)
def sw9:Code:=(Code.cond (Operand.tmp 43) (Code.region 10 #[
  ⟨some 45,.load 28 (.tmp 12),28,"ref.go:75",#[],none⟩,
  ⟨some 46,.load 27 (.tmp 8),27,"ref.go:75",#[],none⟩,
  ⟨some 47,.buildSlice 28 1 #[(0,.tmp 46)],28,"ref.go:75",#[⟨1,.data⟩],none⟩,
  ⟨some 48,.call ⟨.builtin .append,#[.tmp 45,.tmp 47],#[28,28]⟩,28,"ref.go:75",#[⟨0,.data⟩,⟨2,.data⟩],none⟩,
  ⟨none,.store 28 (.tmp 12) (.tmp 48),0,"ref.go:75",#[⟨3,.data⟩,⟨3,.chain⟩,⟨0,.phase⟩,⟨1,.phase⟩,⟨2,.phase⟩,⟨3,.phase⟩],none⟩] false) ((Code.region 11 #[
  ⟨some 50,.binOp .eql 3 (.tmp 42) (.const (.int .i64 2)) 3,4,"ref.go:76",#[],none⟩,
  ⟨some 49,.assign (.tmp 50),4,"ref.go:76",#[⟨0,.data⟩],none⟩] false).seq (Code.cond (Operand.tmp 49) (Code.region 12 #[
  ⟨some 51,.load 28 (.tmp 12),28,"ref.go:77",#[],none⟩,
  ⟨some 52,.move (.tmp 4),28,"ref.go:77",#[],none⟩,
  ⟨some 53,.fieldAddr 76 (.tmp 15) 1,0,"ref.go:77",#[],none⟩,
  ⟨some 54,.load 3 (.tmp 53),3,"ref.go:77",#[⟨2,.data⟩],none⟩,
  ⟨some 55,.indexAddr 28 (.tmp 52) (.tmp 54),0,"ref.go:77",#[⟨1,.data⟩,⟨3,.data⟩],none⟩,
  ⟨some 56,.load 27 (.tmp 55),27,"ref.go:77",#[⟨4,.data⟩],none⟩,
  ⟨some 57,.buildSlice 28 1 #[(0,.tmp 56)],28,"ref.go:77",#[⟨5,.data⟩],none⟩,
  ⟨some 58,.call ⟨.builtin .append,#[.tmp 51,.tmp 57],#[28,28]⟩,28,"ref.go:77",#[⟨0,.data⟩,⟨6,.data⟩],none⟩,
  ⟨none,.store 28 (.tmp 12) (.tmp 58),0,"ref.go:77",#[⟨7,.data⟩,⟨7,.chain⟩,⟨0,.phase⟩,⟨1,.phase⟩,⟨2,.phase⟩,⟨3,.phase⟩,⟨4,.phase⟩,⟨5,.phase⟩,⟨6,.phase⟩,⟨7,.phase⟩],none⟩] true) ((Code.region 13 #[
  ⟨some 60,.binOp .eql 3 (.tmp 42) (.const (.int .i64 3)) 3,4,"ref.go:78",#[],none⟩,
  ⟨some 59,.assign (.tmp 60),4,"ref.go:78",#[⟨0,.data⟩],none⟩] false).seq (Code.cond (Operand.tmp 59) (Code.region 14 #[
  ⟨some 61,.load 28 (.tmp 12),28,"ref.go:79",#[],none⟩,
  ⟨some 62,.move (.tmp 11),28,"ref.go:79",#[],none⟩,
  ⟨some 63,.fieldAddr 76 (.tmp 15) 1,0,"ref.go:79",#[],none⟩,
  ⟨some 64,.load 3 (.tmp 63),3,"ref.go:79",#[⟨2,.data⟩],none⟩,
  ⟨some 65,.indexAddr 28 (.tmp 62) (.tmp 64),0,"ref.go:79",#[⟨1,.data⟩,⟨3,.data⟩],none⟩,
  ⟨some 66,.load 27 (.tmp 65),27,"ref.go:79",#[⟨4,.data⟩],none⟩,
  ⟨some 67,.buildSlice 28 1 #[(0,.tmp 66)],28,"ref.go:79",#[⟨5,.data⟩],none⟩,
  ⟨some 68,.call ⟨.builtin .append,#[.tmp 61,.tmp 67],#[28,28]⟩,28,"ref.go:79",#[⟨0,.data⟩,⟨6,.data⟩],none⟩,
  ⟨none,.store 28 (.tmp 12) (.tmp 68),0,"ref.go:79",#[⟨7,.data⟩,⟨7,.chain⟩,⟨0,.phase⟩,⟨1,.phase⟩,⟨2,.phase⟩,⟨3,.phase⟩,⟨4,.phase⟩,⟨5,.phase⟩,⟨6,.phase⟩,⟨7,.phase⟩],none⟩] true) ((Code.region 15 #[
  ⟨some 70,.binOp .eql 3 (.tmp 42) (.const (.int .i64 4)) 3,4,"ref.go:80",#[],none⟩,
  ⟨some 69,.assign (.tmp 70),4,"ref.go:80",#[⟨0,.data⟩],none⟩] false).seq (Code.cond (Operand.tmp 69) (Code.region 16 #[
  ⟨some 71,.load 28 (.tmp 12),28,"ref.go:81",#[],none⟩,
  ⟨some 72,.move (.tmp 0),47,"ref.go:81",#[],none⟩,
  ⟨some 73,.nilCheck (.tmp 72),0,"ref.go:81",#[⟨1,.data⟩],none⟩,
  ⟨some 74,.fieldAddr 89 (.tmp 73) 0,0,"ref.go:81",#[⟨2,.data⟩],none⟩,
  ⟨some 75,.fieldAddr 25 (.tmp 74) 1,0,"ref.go:81",#[⟨3,.data⟩],none⟩,
  ⟨some 76,.load 23 (.tmp 75),23,"ref.go:81",#[⟨4,.data⟩],none⟩,
  ⟨some 77,.load 27 (.tmp 8),27,"ref.go:81",#[],none⟩,
  ⟨some 78,.fieldAddr 76 (.tmp 15) 1,0,"ref.go:81",#[],none⟩,
  ⟨some 79,.load 3 (.tmp 78),3,"ref.go:81",#[⟨7,.data⟩],none⟩,
  ⟨some 80,.call ⟨.value (.func 69),#[.tmp 76,.tmp 77,.tmp 79],#[23,27,3]⟩,27,"ref.go:81",#[⟨5,.data⟩,⟨6,.data⟩,⟨8,.data⟩],none⟩,
  ⟨some 81,.buildSlice 28 1 #[(0,.tmp 80)],28,"ref.go:81",#[⟨9,.data⟩],none⟩,
  ⟨some 82,.call ⟨.builtin .append,#[.tmp 71,.tmp 81],#[28,28]⟩,28,"ref.go:81",#[⟨0,.data⟩,⟨10,.data⟩,⟨9,.chain⟩],none⟩,
  ⟨none,.store 28 (.tmp 12) (.tmp 82),0,"ref.go:81",#[⟨11,.data⟩,⟨11,.chain⟩,⟨0,.phase⟩,⟨1,.phase⟩,⟨2,.phase⟩,⟨3,.phase⟩,⟨4,.phase⟩,⟨5,.phase⟩,⟨6,.phase⟩,⟨7,.phase⟩,⟨8,.phase⟩,⟨9,.phase⟩,⟨10,.phase⟩,⟨11,.phase⟩],none⟩] true) ((Code.region 17 #[
  ⟨some 84,.binOp .eql 3 (.tmp 42) (.const (.int .i64 5)) 3,4,"ref.go:82",#[],none⟩,
  ⟨some 83,.assign (.tmp 84),4,"ref.go:82",#[⟨0,.data⟩],none⟩] false).seq (Code.cond (Operand.tmp 83) (Code.region 18 #[
  ⟨some 85,.load 28 (.tmp 12),28,"ref.go:83",#[],none⟩,
  ⟨some 86,.fieldAddr 76 (.tmp 15) 1,0,"ref.go:83",#[],none⟩,
  ⟨some 87,.load 3 (.tmp 86),3,"ref.go:83",#[⟨1,.data⟩],none⟩,
  ⟨some 88,.build 27 #[(0,.const (.int .i64 3)),(1,.tmp 87)],27,"ref.go:83",#[⟨2,.data⟩],none⟩,
  ⟨some 89,.buildSlice 28 1 #[(0,.tmp 88)],28,"ref.go:83",#[⟨3,.data⟩],none⟩,
  ⟨some 90,.call ⟨.builtin .append,#[.tmp 85,.tmp 89],#[28,28]⟩,28,"ref.go:83",#[⟨0,.data⟩,⟨4,.data⟩],none⟩,
  ⟨none,.store 28 (.tmp 12) (.tmp 90),0,"ref.go:83",#[⟨5,.data⟩,⟨5,.chain⟩,⟨0,.phase⟩,⟨1,.phase⟩,⟨2,.phase⟩,⟨3,.phase⟩,⟨4,.phase⟩,⟨5,.phase⟩],none⟩] false) ((Code.region 19 #[
  ⟨some 92,.binOp .eql 3 (.tmp 42) (.const (.int .i64 6)) 3,4,"ref.go:84",#[],none⟩,
  ⟨some 91,.assign (.tmp 92),4,"ref.go:84",#[⟨0,.data⟩],none⟩] false).seq (Code.cond (Operand.tmp 91) (Code.region 20 #[
  ⟨some 93,.load 28 (.tmp 12),28,"ref.go:85",#[],none⟩,
  ⟨some 94,.build 27 #[],27,"ref.go:85",#[],none⟩,
  ⟨some 95,.buildSlice 28 1 #[(0,.tmp 94)],28,"ref.go:85",#[⟨1,.data⟩],none⟩,
  ⟨some 96,.call ⟨.builtin .append,#[.tmp 93,.tmp 95],#[28,28]⟩,28,"ref.go:85",#[⟨0,.data⟩,⟨2,.data⟩],none⟩,
  ⟨none,.store 28 (.tmp 12) (.tmp 96),0,"ref.go:85",#[⟨3,.data⟩,⟨3,.chain⟩,⟨0,.phase⟩,⟨1,.phase⟩,⟨2,.phase⟩,⟨3,.phase⟩],none⟩] false) ((Code.region 21 #[
  ⟨some 98,.binOp .eql 3 (.tmp 42) (.const (.int .i64 7)) 3,4,"ref.go:86",#[],none⟩,
  ⟨some 97,.assign (.tmp 98),4,"ref.go:86",#[⟨0,.data⟩],none⟩] false).seq (Code.cond (Operand.tmp 97) (Code.region 22 #[
  ⟨some 99,.load 28 (.tmp 12),28,"ref.go:87",#[],none⟩,
  ⟨some 100,.call ⟨.value (.func 67),#[.const (.bool false)],#[4]⟩,27,"ref.go:87",#[],none⟩,
  ⟨some 101,.buildSlice 28 1 #[(0,.tmp 100)],28,"ref.go:87",#[⟨1,.data⟩],none⟩,
  ⟨some 102,.call ⟨.builtin .append,#[.tmp 99,.tmp 101],#[28,28]⟩,28,"ref.go:87",#[⟨0,.data⟩,⟨2,.data⟩,⟨1,.chain⟩],none⟩,
  ⟨none,.store 28 (.tmp 12) (.tmp 102),0,"ref.go:87",#[⟨3,.data⟩,⟨3,.chain⟩,⟨0,.phase⟩,⟨1,.phase⟩,⟨2,.phase⟩,⟨3,.phase⟩],none⟩] true) ((Code.region 23 #[
  ⟨some 104,.binOp .eql 3 (.tmp 42) (.const (.int .i64 8)) 3,4,"ref.go:88",#[],none⟩,
  ⟨some 103,.assign (.tmp 104),4,"ref.go:88",#[⟨0,.data⟩],none⟩] false).seq (Code.cond (Operand.tmp 103) (Code.region 24 #[
  ⟨some 105,.load 28 (.tmp 12),28,"ref.go:89",#[],none⟩,
  ⟨some 106,.call ⟨.value (.func 67),#[.const (.bool true)],#[4]⟩,27,"ref.go:89",#[],none⟩,
  ⟨some 107,.buildSlice 28 1 #[(0,.tmp 106)],28,"ref.go:89",#[⟨1,.data⟩],none⟩,
  ⟨some 108,.call ⟨.builtin .append,#[.tmp 105,.tmp 107],#[28,28]⟩,28,"ref.go:89",#[⟨0,.data⟩,⟨2,.data⟩,⟨1,.chain⟩],none⟩,
  ⟨none,.store 28 (.tmp 12) (.tmp 108),0,"ref.go:89",#[⟨3,.data⟩,⟨3,.chain⟩,⟨0,.phase⟩,⟨1,.phase⟩,⟨2,.phase⟩,⟨3,.phase⟩],none⟩] true) ((Code.region 25 #[
  ⟨some 110,.binOp .eql 3 (.tmp 42) (.const (.int .i64 9)) 3,4,"ref.go:90",#[],none⟩,
  ⟨some 109,.assign (.tmp 110),4,"ref.go:90",#[⟨0,.data⟩],none⟩] false).seq (Code.cond (Operand.tmp 109) (Code.region 26 #[
  ⟨some 111,.move (.tmp 13),136,"ref.go:91",#[],none⟩,
  ⟨some 112,.call ⟨.value (.tmp 111),#[],#[]⟩,27,"ref.go:91",#[⟨0,.data⟩],none⟩] false) ((Code.region 27 #[
  ⟨some 114,.binOp .eql 3 (.tmp 42) (.const (.int .i64 10)) 3,4,"ref.go:92",#[],none⟩,
  ⟨some 113,.assign (.tmp 114),4,"ref.go:92",#[⟨0,.data⟩],none⟩] false).seq (Code.cond (Operand.tmp 113) ((Code.region 28 #[
  ⟨some 115,.move (.tmp 13),136,"ref.go:93",#[],none⟩,
  ⟨some 116,.call ⟨.value (.tmp 115),#[],#[]⟩,27,"ref.go:93",#[⟨0,.data⟩],none⟩,
  ⟨some 17,.alloc 27,0,"ref.go:93",#[],none⟩,
  ⟨none,.store 27 (.tmp 17) (.tmp 116),0,"ref.go:93",#[⟨2,.data⟩,⟨1,.data⟩,⟨1,.chain⟩,⟨0,.phase⟩,⟨1,.phase⟩,⟨2,.phase⟩],none⟩] false).seq (Code.region 29 #[
  ⟨some 117,.load 28 (.tmp 12),28,"ref.go:94",#[],none⟩,
  ⟨some 118,.load 27 (.tmp 17),27,"ref.go:94",#[],none⟩,
  ⟨some 119,.load 27 (.tmp 17),27,"ref.go:94",#[],none⟩,
  ⟨some 120,.buildSlice 28 2 #[(0,.tmp 118),(1,.tmp 119)],28,"ref.go:94",#[⟨1,.data⟩,⟨2,.data⟩],none⟩,
  ⟨some 121,.call ⟨.builtin .append,#[.tmp 117,.tmp 120],#[28,28]⟩,28,"ref.go:94",#[⟨0,.data⟩,⟨3,.data⟩],none⟩,
  ⟨none,.store 28 (.tmp 12) (.tmp 121),0,"ref.go:94",#[⟨4,.data⟩,⟨4,.chain⟩,⟨0,.phase⟩,⟨1,.phase⟩,⟨2,.phase⟩,⟨3,.phase⟩,⟨4,.phase⟩],none⟩] false)) ((Code.region 30 #[
  ⟨some 123,.binOp .eql 3 (.tmp 42) (.const (.int .i64 11)) 3,4,"ref.go:95",#[],none⟩,
  ⟨some 122,.assign (.tmp 123),4,"ref.go:95",#[⟨0,.data⟩],none⟩] false).seq (Code.cond (Operand.tmp 122) (Code.region 31 #[
  ⟨some 124,.move (.tmp 11),28,"ref.go:96",#[],none⟩,
  ⟨some 125,.fieldAddr 76 (.tmp 15) 1,0,"ref.go:96",#[],none⟩,
  ⟨some 126,.load 3 (.tmp 125),3,"ref.go:96",#[⟨1,.data⟩],none⟩,
  ⟨some 127,.move (.tmp 13),136,"ref.go:96",#[],none⟩,
  ⟨some 128,.call ⟨.value (.tmp 127),#[],#[]⟩,27,"ref.go:96",#[⟨3,.data⟩],none⟩,
  ⟨some 129,.indexAddr 28 (.tmp 124) (.tmp 126),0,"ref.go:96",#[⟨0,.data⟩,⟨2,.data⟩,⟨0,.phase⟩,⟨1,.phase⟩,⟨2,.phase⟩,⟨3,.phase⟩,⟨4,.phase⟩],none⟩,
  ⟨none,.store 27 (.tmp 129) (.tmp 128),0,"ref.go:96",#[⟨5,.data⟩,⟨4,.data⟩,⟨4,.chain⟩,⟨0,.phase⟩,⟨1,.phase⟩,⟨2,.phase⟩,⟨3,.phase⟩,⟨4,.phase⟩],none⟩] true) ((Code.region 32 #[
  ⟨some 131,.binOp .eql 3 (.tmp 42) (.const (.int .i64 12)) 3,4,"ref.go:97",#[],none⟩,
  ⟨some 130,.assign (.tmp 131),4,"ref.go:97",#[⟨0,.data⟩],none⟩] false).seq (Code.cond (Operand.tmp 130) (Code.region 33 #[
  ⟨some 132,.move (.tmp 0),47,"ref.go:98",#[],none⟩,
  ⟨some 133,.load 27 (.tmp 8),27,"ref.go:98",#[],none⟩,
  ⟨some 134,.fieldAddr 76 (.tmp 15) 1,0,"ref.go:98",#[],none⟩,
  ⟨some 135,.load 3 (.tmp 134),3,"ref.go:98",#[⟨2,.data⟩],none⟩,
  ⟨some 136,.move (.tmp 13),136,"ref.go:98",#[],none⟩,
  ⟨some 137,.call ⟨.value (.tmp 136),#[],#[]⟩,27,"ref.go:98",#[⟨4,.data⟩],none⟩,
  ⟨some 138,.call ⟨.value (.func 70),#[.tmp 132,.tmp 133,.tmp 135,.tmp 137],#[47,27,3,27]⟩,0,"ref.go:98",#[⟨0,.data⟩,⟨1,.data⟩,⟨3,.data⟩,⟨5,.data⟩,⟨5,.chain⟩],none⟩] true) ((Code.region 34 #[
  ⟨some 140,.binOp .eql 3 (.tmp 42) (.const (.int .i64 13)) 3,4,"ref.go:99",#[],none⟩,
  ⟨some 139,.assign (.tmp 140),4,"ref.go:99",#[⟨0,.data⟩],none⟩] false).seq (Code.cond (Operand.tmp 139) (((Code.region 35 #[
  ⟨some 141,.move (.tmp 0),47,"ref.go:100",#[],none⟩,
  ⟨some 142,.nilCheck (.tmp 141),0,"ref.go:100",#[⟨0,.data⟩],none⟩,
  ⟨some 143,.fieldAddr 89 (.tmp 142) 0,0,"ref.go:100",#[⟨1,.data⟩],none⟩,
  ⟨some 144,.fieldAddr 25 (.tmp 143) 1,0,"ref.go:100",#[⟨2,.data⟩],none⟩,
  ⟨some 145,.load 23 (.tmp 144),23,"ref.go:100",#[⟨3,.data⟩],none⟩,
  ⟨some 146,.call ⟨.builtin .len,#[.tmp 145],#[23]⟩,3,"ref.go:100",#[⟨4,.data⟩],none⟩,
  ⟨some 147,.binOp .geq 3 (.tmp 146) (.const (.int .i64 60)) 3,4,"ref.go:100",#[⟨5,.data⟩],none⟩] false).seq (Code.cond (Operand.tmp 147) ((Code.region 36 #[
  ⟨some 148,.move (.tmp 0),47,"ref.go:101",#[],none⟩,
  ⟨some 149,.nilCheck (.tmp 148),0,"ref.go:101",#[⟨0,.data⟩,⟨0,.phase⟩],none⟩,
  ⟨some 150,.fieldAddr 89 (.tmp 149) 5,0,"ref.go:101",#[⟨1,.data⟩,⟨0,.phase⟩],none⟩,
  ⟨none,.store 33 (.tmp 150) (.const (.int .i64 15)),0,"ref.go:101",#[⟨2,.data⟩,⟨0,.phase⟩],none⟩] false).seq (Code.exit 2)) Code.skip)).seq ((Code.region 37 #[
  ⟨some 151,.load 28 (.tmp 12),28,"ref.go:104",#[],none⟩,
  ⟨some 152,.move (.tmp 0),47,"ref.go:104",#[],none⟩,
  ⟨some 153,.nilCheck (.tmp 152),0,"ref.go:104",#[⟨1,.data⟩],none⟩,
  ⟨some 154,.fieldAddr 89 (.tmp 153) 0,0,"ref.go:104",#[⟨2,.data⟩],none⟩,
  ⟨some 155,.fieldAddr 25 (.tmp 154) 1,0,"ref.go:104",#[⟨3,.data⟩],none⟩,
  ⟨some 156,.load 23 (.tmp 155),23,"ref.go:104",#[⟨4,.data⟩],none⟩,
  ⟨some 157,.call ⟨.builtin .len,#[.tmp 156],#[23]⟩,3,"ref.go:104",#[⟨5,.data⟩],none⟩,
  ⟨some 158,.build 27 #[(0,.const (.int .i64 4)),(1,.tmp 157)],27,"ref.go:104",#[⟨6,.data⟩],none⟩,
  ⟨some 159,.buildSlice 28 1 #[(0,.tmp 158)],28,"ref.go:104",#[⟨7,.data⟩],none⟩,
  ⟨some 160,.call ⟨.builtin .append,#[.tmp 151,.tmp 159],#[28,28]⟩,28,"ref.go:104",#[⟨0,.data⟩,⟨8,.data⟩],none⟩,
  ⟨none,.store 28 (.tmp 12) (.tmp 160),0,"ref.go:104",#[⟨9,.data⟩,⟨9,.chain⟩,⟨0,.phase⟩,⟨1,.phase⟩,⟨2,.phase⟩,⟨3,.phase⟩,⟨4,.phase⟩,⟨5,.phase⟩,⟨6,.phase⟩,⟨7,.phase⟩,⟨8,.phase⟩,⟨9,.phase⟩],none⟩] true).seq (Code.region 38 #[
  ⟨some 161,.move (.tmp 0),47,"ref.go:105",#[],none⟩,
  ⟨some 162,.buildSlice 23 0 #[],23,"ref.go:105",#[],none⟩,
  ⟨some 163,.move (.tmp 0),47,"ref.go:105",#[],none⟩,
  ⟨some 164,.nilCheck (.tmp 163),0,"ref.go:105",#[⟨2,.data⟩],none⟩,
  ⟨some 165,.fieldAddr 89 (.tmp 164) 0,0,"ref.go:105",#[⟨3,.data⟩],none⟩,
  ⟨some 166,.fieldAddr 25 (.tmp 165) 1,0,"ref.go:105",#[⟨4,.data⟩],none⟩,
  ⟨some 167,.load 23 (.tmp 166),23,"ref.go:105",#[⟨5,.data⟩],none⟩,
  ⟨some 168,.call ⟨.builtin .append,#[.tmp 162,.tmp 167],#[23,23]⟩,23,"ref.go:105",#[⟨1,.data⟩,⟨6,.data⟩],none⟩,
  ⟨some 169,.fieldAddr 76 (.tmp 15) 1,0,"ref.go:105",#[],none⟩,
  ⟨some 170,.load 3 (.tmp 169),3,"ref.go:105",#[⟨8,.data⟩],none⟩,
  ⟨some 171,.move (.tmp 0),47,"ref.go:105",#[],none⟩,
  ⟨some 172,.nilCheck (.tmp 171),0,"ref.go:105",#[⟨10,.data⟩],none⟩,
  ⟨some 173,.fieldAddr 89 (.tmp 172) 0,0,"ref.go:105",#[⟨11,.data⟩],none⟩,
  ⟨some 174,.load 25 (.tmp 173),25,"ref.go:105",#[⟨12,.data⟩],none⟩,
  ⟨some 175,.fieldAddr 76 (.tmp 15) 1,0,"ref.go:105",#[],none⟩,
  ⟨some 176,.load 3 (.tmp 175),3,"ref.go:105",#[⟨14,.data⟩],none⟩,
  ⟨some 177,.call ⟨.value (.func 16),#[.tmp 174,.tmp 176],#[25,3]⟩,3,"ref.go:105",#[⟨13,.data⟩,⟨15,.data⟩,⟨7,.chain⟩],none⟩,
  ⟨some 178,.makeSlice 28 (.tmp 177) (.tmp 177),28,"ref.go:105",#[⟨16,.data⟩,⟨16,.data⟩],none⟩,
  ⟨some 179,.build 64 #[(0,.tmp 170),(1,.tmp 178)],64,"ref.go:105",#[⟨9,.data⟩,⟨17,.data⟩],none⟩,
  ⟨some 180,.buildSlice 23 1 #[(0,.tmp 179)],23,"ref.go:105",#[⟨18,.data⟩],none⟩,
  ⟨some 181,.call ⟨.builtin .append,#[.tmp 168,.tmp 180],#[23,23]⟩,23,"ref.go:105",#[⟨7,.data⟩,⟨19,.data⟩,⟨16,.chain⟩],none⟩,
  ⟨some 182,.nilCheck (.tmp 161),0,"ref.go:105",#[⟨0,.data⟩,⟨0,.phase⟩,⟨1,.phase⟩,⟨2,.phase⟩,⟨3,.phase⟩,⟨4,.phase⟩,⟨5,.phase⟩,⟨6,.phase⟩,⟨7,.phase⟩,⟨8,.phase⟩,⟨9,.phase⟩,⟨10,.phase⟩,⟨11,.phase⟩,⟨12,.phase⟩,⟨13,.phase⟩,⟨14,.phase⟩,⟨15,.phase⟩,⟨16,.phase⟩,⟨17,.phase⟩,⟨18,.phase⟩,⟨19,.phase⟩,⟨20,.phase⟩],none⟩,
  ⟨some 183,.fieldAddr 89 (.tmp 182) 0,0,"ref.go:105",#[⟨21,.data⟩,⟨0,.phase⟩,⟨1,.phase⟩,⟨2,.phase⟩,⟨3,.phase⟩,⟨4,.phase⟩,⟨5,.phase⟩,⟨6,.phase⟩,⟨7,.phase⟩,⟨8,.phase⟩,⟨9,.phase⟩,⟨10,.phase⟩,⟨11,.phase⟩,⟨12,.phase⟩,⟨13,.phase⟩,⟨14,.phase⟩,⟨15,.phase⟩,⟨16,.phase⟩,⟨17,.phase⟩,⟨18,.phase⟩,⟨19,.phase⟩,⟨20,.phase⟩],none⟩,
  ⟨some 184,.fieldAddr 25 (.tmp 183) 1,0,"ref.go:105",#[⟨22,.data⟩,⟨0,.phase⟩,⟨1,.phase⟩,⟨2,.phase⟩,⟨3,.phase⟩,⟨4,.phase⟩,⟨5,.phase⟩,⟨6,.phase⟩,⟨7,.phase⟩,⟨8,.phase⟩,⟨9,.phase⟩,⟨10,.phase⟩,⟨11,.phase⟩,⟨12,.phase⟩,⟨13,.phase⟩,⟨14,.phase⟩,⟨15,.phase⟩,⟨16,.phase⟩,⟨17,.phase⟩,⟨18,.phase⟩,⟨19,.phase⟩,⟨20,.phase⟩],none⟩,
  ⟨none,.store 23 (.tmp 184) (.tmp 181),0,"ref.go:105",#[⟨23,.data⟩,⟨20,.data⟩,⟨20,.chain⟩,⟨0,.phase⟩,⟨1,.phase⟩,⟨2,.phase⟩,⟨3,.phase⟩,⟨4,.phase⟩,⟨5,.phase⟩,⟨6,.phase⟩,⟨7,.phase⟩,⟨8,.phase⟩,⟨9,.phase⟩,⟨10,.phase⟩,⟨11,.phase⟩,⟨12,.phase⟩,⟨13,.phase⟩,⟨14,.phase⟩,⟨15,.phase⟩,⟨16,.phase⟩,⟨17,.phase⟩,⟨18,.phase⟩,⟨19,.phase⟩,⟨20,.phase⟩],none⟩] true))) ((Code.region 39 #[
  ⟨some 186,.binOp .eql 3 (.tmp 42) (.const (.int .i64 14)) 3,4,"ref.go:106",#[],none⟩,
  ⟨some 185,.assign (.tmp 186),4,"ref.go:106",#[⟨0,.data⟩],none⟩] false).seq (Code.cond (Operand.tmp 185) ((Code.region 40 #[
  ⟨some 187,.load 28 (.tmp 12),28,"ref.go:107",#[],none⟩,
  ⟨some 188,.call ⟨.builtin .len,#[.tmp 187],#[28]⟩,3,"ref.go:107",#[⟨0,.data⟩],none⟩,
  ⟨some 189,.fieldAddr 76 (.tmp 15) 1,0,"ref.go:107",#[],none⟩,
  ⟨some 190,.load 3 (.tmp 189),3,"ref.go:107",#[⟨2,.data⟩],none⟩,
  ⟨some 191,.binOp .sub 3 (.tmp 188) (.tmp 190) 3,3,"ref.go:107",#[⟨1,.data⟩,⟨3,.data⟩],none⟩,
  ⟨some 18,.assign (.tmp 191),3,"ref.go:107",#[⟨4,.data⟩,⟨0,.phase⟩,⟨1,.phase⟩,⟨2,.phase⟩,⟨3,.phase⟩,⟨4,.phase⟩],none⟩] false).seq ((Code.region 41 #[
  ⟨some 192,.buildSlice 28 0 #[],28,"ref.go:108",#[],none⟩,
  ⟨some 193,.load 28 (.tmp 12),28,"ref.go:108",#[],none⟩,
  ⟨some 194,.move (.tmp 18),3,"ref.go:108",#[],none⟩,
  ⟨some 195,.slice 28 (.tmp 193) (some (.tmp 194)) none none,28,"ref.go:108",#[⟨1,.data⟩,⟨2,.data⟩],none⟩,
  ⟨some 196,.call ⟨.builtin .append,#[.tmp 192,.tmp 195],#[28,28]⟩,28,"ref.go:108",#[⟨0,.data⟩,⟨3,.data⟩],none⟩,
  ⟨some 197,.load 28 (.tmp 12),28,"ref.go:108",#[⟨11,.gcOnly .lateStores⟩],none⟩,
  ⟨some 198,.move (.tmp 18),3,"ref.go:108",#[⟨11,.gcOnly .lateStores⟩],none⟩,
  ⟨some 199,.binOp .sub 3 (.tmp 198) (.const (.int .i64 1)) 3,3,"ref.go:108",#[⟨6,.data⟩,⟨11,.gcOnly .lateStores⟩],none⟩,
  ⟨some 200,.indexAddr 28 (.tmp 197) (.tmp 199),0,"ref.go:108",#[⟨5,.data⟩,⟨7,.data⟩,⟨11,.gcOnly .lateStores⟩],none⟩,
  ⟨some 201,.load 27 (.tmp 200),27,"ref.go:108",#[⟨8,.data⟩,⟨11,.gcOnly .lateStores⟩],none⟩,
  ⟨some 20,.alloc 27,0,"ref.go:108",#[],none⟩,
  ⟨some 19,.assign (.tmp 196),28,"ref.go:108",#[⟨4,.data⟩,⟨4,.chain⟩,⟨0,.phase⟩,⟨1,.phase⟩,⟨2,.phase⟩,⟨3,.phase⟩,⟨4,.phase⟩,⟨5,.textOnly .lateStores⟩,⟨6,.textOnly .lateStores⟩,⟨7,.textOnly .lateStores⟩,⟨8,.textOnly .lateStores⟩,⟨9,.textOnly .lateStores⟩,⟨10,.phase⟩],none⟩,
  ⟨none,.store 27 (.tmp 20) (.tmp 201),0,"ref.go:108",#[⟨10,.data⟩,⟨9,.data⟩,⟨11,.chain⟩,⟨0,.phase⟩,⟨1,.phase⟩,⟨2,.phase⟩,⟨3,.phase⟩,⟨4,.phase⟩,⟨5,.phase⟩,⟨6,.phase⟩,⟨7,.phase⟩,⟨8,.phase⟩,⟨9,.phase⟩,⟨10,.phase⟩,⟨11,.phase⟩],none⟩] true).seq ((Code.region 42 #[
  ⟨some 202,.load 28 (.tmp 12),28,"ref.go:109",#[],none⟩,
  ⟨some 203,.move (.tmp 18),3,"ref.go:109",#[],none⟩,
  ⟨some 204,.binOp .sub 3 (.tmp 203) (.const (.int .i64 1)) 3,3,"ref.go:109",#[⟨1,.data⟩],none⟩,
  ⟨some 205,.slice 28 (.tmp 202) none (some (.tmp 204)) none,28,"ref.go:109",#[⟨0,.data⟩,⟨2,.data⟩],none⟩,
  ⟨none,.store 28 (.tmp 12) (.tmp 205),0,"ref.go:109",#[⟨3,.data⟩,⟨0,.phase⟩,⟨1,.phase⟩,⟨2,.phase⟩,⟨3,.phase⟩],none⟩] false).seq ((Code.region 43 #[
  ⟨some 206,.move (.tmp 0),47,"ref.go:110",#[],none⟩,
  ⟨some 207,.nilCheck (.tmp 206),0,"ref.go:110",#[⟨0,.data⟩],none⟩,
  ⟨some 208,.fieldAddr 89 (.tmp 207) 0,0,"ref.go:110",#[⟨1,.data⟩],none⟩,
  ⟨some 209,.fieldAddr 25 (.tmp 208) 1,0,"ref.go:110",#[⟨2,.data⟩],none⟩,
  ⟨some 210,.load 23 (.tmp 209),23,"ref.go:110",#[⟨3,.data⟩],none⟩,
  ⟨some 211,.load 27 (.tmp 20),27,"ref.go:110",#[],none⟩,
  ⟨some 212,.call ⟨.value (.func 34),#[.tmp 210,.tmp 211],#[23,27]⟩,3,"ref.go:110",#[⟨4,.data⟩,⟨5,.data⟩],none⟩,
  ⟨some 21,.assign (.tmp 212),3,"ref.go:110",#[⟨6,.data⟩,⟨6,.chain⟩,⟨0,.phase⟩,⟨1,.phase⟩,⟨2,.phase⟩,⟨3,.phase⟩,⟨4,.phase⟩,⟨5,.phase⟩,⟨6,.phase⟩],none⟩] true).seq ((Code.region 44 #[
  ⟨some 213,.move (.tmp 0),47,"ref.go:111",#[],none⟩,
  ⟨some 214,.move (.tmp 0),47,"ref.go:111",#[⟨22,.gcOnly .lateStores⟩],none⟩,
  ⟨some 215,.move (.tmp 0),47,"ref.go:111",#[],none⟩,
  ⟨some 216,.nilCheck (.tmp 215),0,"ref.go:111",#[⟨2,.data⟩],none⟩,
  ⟨some 217,.fieldAddr 89 (.tmp 216) 6,0,"ref.go:111",#[⟨3,.data⟩],none⟩,
  ⟨some 218,.load 86 (.tmp 217),86,"ref.go:111",#[⟨4,.data⟩],none⟩,
  ⟨some 219,.move (.tmp 1),3,"ref.go:111",#[],none⟩,
  ⟨some 220,.fieldAddr 59 (.tmp 7) 0,0,"ref.go:111",#[],none⟩,
  ⟨some 221,.load 9 (.tmp 220),9,"ref.go:111",#[⟨7,.data⟩],none⟩,
  ⟨some 222,.move (.tmp 14),3,"ref.go:111",#[],none⟩,
  ⟨some 223,.build 67 #[(0,.tmp 219),(1,.tmp 221),(2,.tmp 222)],67,"ref.go:111",#[⟨6,.data⟩,⟨8,.data⟩,⟨9,.data⟩],none⟩,
  ⟨some 224,.buildSlice 86 1 #[(0,.tmp 223)],86,"ref.go:111",#[⟨10,.data⟩],none⟩,
  ⟨some 225,.call ⟨.builtin .append,#[.tmp 218,.tmp 224],#[86,86]⟩,86,"ref.go:111",#[⟨5,.data⟩,⟨11,.data⟩],none⟩,
  ⟨some 226,.move (.tmp 0),47,"ref.go:111",#[],none⟩,
  ⟨some 227,.nilCheck (.tmp 226),0,"ref.go:111",#[⟨13,.data⟩],none⟩,
  ⟨some 228,.fieldAddr 89 (.tmp 227) 7,0,"ref.go:111",#[⟨14,.data⟩],none⟩,
  ⟨some 229,.load 87 (.tmp 228),87,"ref.go:111",#[⟨15,.data⟩],none⟩,
  ⟨some 230,.move (.tmp 21),3,"ref.go:111",#[],none⟩,
  ⟨some 231,.buildSlice 87 1 #[(0,.tmp 230)],87,"ref.go:111",#[⟨17,.data⟩],none⟩,
  ⟨some 232,.call ⟨.builtin .append,#[.tmp 229,.tmp 231],#[87,87]⟩,87,"ref.go:111",#[⟨16,.data⟩,⟨18,.data⟩,⟨12,.chain⟩],none⟩,
  ⟨some 233,.nilCheck (.tmp 213),0,"ref.go:111",#[⟨0,.data⟩,⟨0,.phase⟩,⟨1,.textOnly .lateStores⟩,⟨2,.phase⟩,⟨3,.phase⟩,⟨4,.phase⟩,⟨5,.phase⟩,⟨6,.phase⟩,⟨7,.phase⟩,⟨8,.phase⟩,⟨9,.phase⟩,⟨10,.phase⟩,⟨11,.phase⟩,⟨12,.phase⟩,⟨13,.textOnly .lateStores⟩,⟨14,.textOnly .lateStoresUnsure⟩,⟨15,.textOnly .lateStoresUnsure⟩,⟨16,.phase⟩,⟨17,.textOnly .lateStores⟩,⟨18,.textOnly .lateStoresUnsure⟩,⟨19,.phase⟩],none⟩,
  ⟨some 234,.fieldAddr 89 (.tmp 233) 6,0,"ref.go:111",#[⟨20,.data⟩,⟨0,.phase⟩,⟨1,.textOnly .lateStores⟩,⟨2,.phase⟩,⟨3,.phase⟩,⟨4,.phase⟩,⟨5,.phase⟩,⟨6,.phase⟩,⟨7,.phase⟩,⟨8,.phase⟩,⟨9,.phase⟩,⟨10,.phase⟩,⟨11,.phase⟩,⟨12,.phase⟩,⟨13,.textOnly .lateStores⟩,⟨14,.textOnly .lateStoresUnsure⟩,⟨15,.textOnly .lateStoresUnsure⟩,⟨16,.phase⟩,⟨17,.textOnly .lateStores⟩,⟨18,.textOnly .lateStoresUnsure⟩,⟨19,.phase⟩],none⟩,
  ⟨none,.store 86 (.tmp 234) (.tmp 225),0,"ref.go:111",#[⟨21,.data⟩,⟨12,.data⟩,⟨19,.chain⟩,⟨0,.phase⟩,⟨1,.textOnly .lateStores⟩,⟨2,.phase⟩,⟨3,.phase⟩,⟨4,.phase⟩,⟨5,.phase⟩,⟨6,.phase⟩,⟨7,.phase⟩,⟨8,.phase⟩,⟨9,.phase⟩,⟨10,.phase⟩,⟨11,.phase⟩,⟨12,.phase⟩,⟨13,.textOnly .lateStores⟩,⟨14,.textOnly .lateStoresUnsure⟩,⟨15,.textOnly .lateStoresUnsure⟩,⟨16,.phase⟩,⟨17,.textOnly .lateStores⟩,⟨18,.textOnly .lateStoresUnsure⟩,⟨19,.phase⟩],none⟩,
  ⟨some 235,.nilCheck (.tmp 214),0,"ref.go:111",#[⟨1,.data⟩,⟨0,.phase⟩,⟨1,.phase⟩,⟨2,.phase⟩,⟨3,.phase⟩,⟨4,.phase⟩,⟨5,.phase⟩,⟨6,.phase⟩,⟨7,.phase⟩,⟨8,.phase⟩,⟨9,.phase⟩,⟨10,.phase⟩,⟨11,.phase⟩,⟨12,.phase⟩,⟨13,.phase⟩,⟨14,.phase⟩,⟨15,.phase⟩,⟨16,.phase⟩,⟨17,.phase⟩,⟨18,.phase⟩,⟨19,.phase⟩,⟨20,.phase⟩,⟨21,.phase⟩,⟨22,.phase⟩],none⟩,
  ⟨some 236,.fieldAddr 89 (.tmp 235) 7,0,"ref.go:111",#[⟨23,.data⟩,⟨0,.phase⟩,⟨1,.phase⟩,⟨2,.phase⟩,⟨3,.phase⟩,⟨4,.phase⟩,⟨5,.phase⟩,⟨6,.phase⟩,⟨7,.phase⟩,⟨8,.phase⟩,⟨9,.phase⟩,⟨10,.phase⟩,⟨11,.phase⟩,⟨12,.phase⟩,⟨13,.phase⟩,⟨14,.phase⟩,⟨15,.phase⟩,⟨16,.phase⟩,⟨17,.phase⟩,⟨18,.phase⟩,⟨19,.phase⟩,⟨20,.phase⟩,⟨21,.phase⟩,⟨22,.phase⟩],none⟩,
  ⟨none,.store 87 (.tmp 236) (.tmp 232),0,"ref.go:111",#[⟨24,.data⟩,⟨19,.data⟩,⟨22,.chain⟩,⟨0,.phase⟩,⟨1,.phase⟩,⟨2,.phase⟩,⟨3,.phase⟩,⟨4,.phase⟩,⟨5,.phase⟩,⟨6,.phase⟩,⟨7,.phase⟩,⟨8,.phase⟩,⟨9,.phase⟩,⟨10,.phase⟩,⟨11,.phase⟩,⟨12,.phase⟩,⟨13,.phase⟩,⟨14,.phase⟩,⟨15,.phase⟩,⟨16,.phase⟩,⟨17,.phase⟩,⟨18,.phase⟩,⟨19,.phase⟩,⟨20,.phase⟩,⟨21,.phase⟩,⟨22,.phase⟩],none⟩] true).seq ((Code.region 45 #[
  ⟨some 238,.move (.tmp 0),47,"ref.go:112",#[],none⟩,
  ⟨some 239,.nilCheck (.tmp 238),0,"ref.go:112",#[⟨0,.data⟩],none⟩,
  ⟨some 240,.fieldAddr 89 (.tmp 239) 0,0,"ref.go:112",#[⟨1,.data⟩],none⟩,
  ⟨some 241,.load 25 (.tmp 240),25,"ref.go:112",#[⟨2,.data⟩],none⟩,
  ⟨some 242,.move (.tmp 21),3,"ref.go:112",#[],none⟩,
  ⟨some 243,.fieldAddr 76 (.tmp 15) 4,0,"ref.go:112",#[],none⟩,
  ⟨some 244,.load 9 (.tmp 243),9,"ref.go:112",#[⟨5,.data⟩],none⟩,
  ⟨some 245,.call ⟨.value (.func 19),#[.tmp 241,.tmp 242,.tmp 244],#[25,3,9]⟩,73,"ref.go:112",#[⟨3,.data⟩,⟨4,.data⟩,⟨6,.data⟩],none⟩,
  ⟨some 237,.move (.tmp 245),73,"ref.go:112",#[⟨7,.data⟩],none⟩,
  ⟨some 246,.extract (.tmp 237) 0,3,"ref.go:112",#[⟨8,.data⟩],none⟩,
  ⟨some 247,.extract (.tmp 237) 1,3,"ref.go:112",#[⟨8,.data⟩,⟨11,.gcOnly .lateStores⟩],none⟩,
  ⟨some 22,.assign (.tmp 246),3,"ref.go:112",#[⟨9,.data⟩,⟨7,.chain⟩,⟨0,.phase⟩,⟨1,.phase⟩,⟨2,.phase⟩,⟨3,.phase⟩,⟨4,.phase⟩,⟨5,.phase⟩,⟨6,.phase⟩,⟨7,.phase⟩,⟨8,.phase⟩,⟨9,.phase⟩,⟨10,.textOnly .lateStores⟩],none⟩,
  ⟨some 23,.assign (.tmp 247),3,"ref.go:112",#[⟨10,.data⟩,⟨11,.chain⟩,⟨0,.phase⟩,⟨1,.phase⟩,⟨2,.phase⟩,⟨3,.phase⟩,⟨4,.phase⟩,⟨5,.phase⟩,⟨6,.phase⟩,⟨7,.phase⟩,⟨8,.phase⟩,⟨9,.phase⟩,⟨10,.phase⟩,⟨11,.phase⟩],none⟩] true).seq (((Code.region 46 #[
  ⟨some 248,.move (.tmp 23),3,"ref.go:113",#[],none⟩,
  ⟨some 249,.binOp .lss 3 (.tmp 248) (.const (.int .i64 0)) 3,4,"ref.go:113",#[⟨0,.data⟩],none⟩] false).seq (Code.cond (Operand.tmp 249) ((Code.region 47 #[
  ⟨some 250,.move (.tmp 0),47,"ref.go:114",#[],none⟩,
  ⟨some 251,.nilCheck (.tmp 250),0,"ref.go:114",#[⟨0,.data⟩,⟨0,.phase⟩],none⟩,
  ⟨some 252,.fieldAddr 89 (.tmp 251) 5,0,"ref.go:114",#[⟨1,.data⟩,⟨0,.phase⟩],none⟩,
  ⟨none,.store 33 (.tmp 252) (.const (.int .i64 10)),0,"ref.go:114",#[⟨2,.data⟩,⟨0,.phase⟩],none⟩] false).seq (Code.exit 2)) Code.skip)).seq (Code.region 48 #[
  ⟨some 253,.load 28 (.tmp 12),28,"ref.go:117",#[],none⟩,
  ⟨some 254,.move (.tmp 0),47,"ref.go:117",#[],none⟩,
  ⟨some 255,.move (.tmp 22),3,"ref.go:117",#[],none⟩,
  ⟨some 256,.move (.tmp 23),3,"ref.go:117",#[],none⟩,
  ⟨some 257,.load 27 (.tmp 20),27,"ref.go:117",#[],none⟩,
  ⟨some 258,.move (.tmp 19),28,"ref.go:117",#[],none⟩,
  ⟨some 259,.call ⟨.value (.func 35),#[.tmp 254,.tmp 255,.tmp 256,.tmp 257,.tmp 258],#[47,3,3,27,28]⟩,27,"ref.go:117",#[⟨1,.data⟩,⟨2,.data⟩,⟨3,.data⟩,⟨4,.data⟩,⟨5,.data⟩],none⟩,
  ⟨some 260,.buildSlice 28 1 #[(0,.tmp 259)],28,"ref.go:117",#[⟨6,.data⟩],none⟩,
  ⟨some 261,.call ⟨.builtin .append,#[.tmp 253,.tmp 260],#[28,28]⟩,28,"ref.go:117",#[⟨0,.data⟩,⟨7,.data⟩,⟨6,.chain⟩],none⟩,
  ⟨none,.store 28 (.tmp 12) (.tmp 261),0,"ref.go:117",#[⟨8,.data⟩,⟨8,.chain⟩,⟨0,.phase⟩,⟨1,.phase⟩,⟨2,.phase⟩,⟨3,.phase⟩,⟨4,.phase⟩,⟨5,.phase⟩,⟨6,.phase⟩,⟨7,.phase⟩,⟨8,.phase⟩],none⟩] true)))))))) ((Code.region 49 #[
  ⟨some 263,.binOp .eql 3 (.tmp 42) (.const (.int .i64 15)) 3,4,"ref.go:118",#[],none⟩,
  ⟨some 262,.assign (.tmp 263),4,"ref.go:118",#[⟨0,.data⟩],none⟩] false).seq (Code.cond (Operand.tmp 262) (Code.region 50 #[
  ⟨some 264,.fieldAddr 76 (.tmp 15) 1,0,"ref.go:119",#[],none⟩,
  ⟨some 265,.load 3 (.tmp 264),3,"ref.go:119",#[⟨0,.data⟩],none⟩,
  ⟨some 16,.assign (.tmp 265),3,"ref.go:119",#[⟨1,.data⟩,⟨0,.phase⟩,⟨1,.phase⟩],none⟩] false) ((Code.region 51 #[
  ⟨some 267,.binOp .eql 3 (.tmp 42) (.const (.int .i64 16)) 3,4,"ref.go:120",#[],none⟩,
  ⟨some 266,.assign (.tmp 267),4,"ref.go:120",#[⟨0,.data⟩],none⟩] false).seq (Code.cond (Operand.tmp 266) ((Code.region 52 #[
  ⟨some 268,.move (.tmp 13),136,"ref.go:121",#[],none⟩,
  ⟨some 269,.call ⟨.value (.tmp 268),#[],#[]⟩,27,"ref.go:121",#[⟨0,.data⟩],none⟩,
  ⟨some 24,.alloc 27,0,"ref.go:121",#[],none⟩,
  ⟨none,.store 27 (.tmp 24) (.tmp 269),0,"ref.go:121",#[⟨2,.data⟩,⟨1,.data⟩,⟨1,.chain⟩,⟨0,.phase⟩,⟨1,.phase⟩,⟨2,.phase⟩],none⟩] false).seq ((Code.region 53 #[
  ⟨some 270,.fieldAddr 27 (.tmp 24) 0,0,"ref.go:122",#[],none⟩,
  ⟨some 271,.load 3 (.tmp 270),3,"ref.go:122",#[⟨0,.data⟩],none⟩,
  ⟨some 272,.binOp .eql 3 (.tmp 271) (.const (.int .i64 1)) 3,4,"ref.go:122",#[⟨1,.data⟩],none⟩] false).seq (Code.cond (Operand.tmp 272) (Code.region 54 #[
  ⟨some 273,.fieldAddr 76 (.tmp 15) 1,0,"ref.go:123",#[],none⟩,
  ⟨some 274,.load 3 (.tmp 273),3,"ref.go:123",#[⟨0,.data⟩],none⟩,
  ⟨some 16,.assign (.tmp 274),3,"ref.go:123",#[⟨1,.data⟩,⟨0,.phase⟩,⟨1,.phase⟩],none⟩] false) ((Code.region 55 #[
  ⟨some 275,.fieldAddr 27 (.tmp 24) 0,0,"ref.go:124",#[],none⟩,
  ⟨some 276,.load 3 (.tmp 275),3,"ref.go:124",#[⟨0,.data⟩],none⟩,
  ⟨some 277,.binOp .neq 3 (.tmp 276) (.const (.int .i64 2)) 3,4,"ref.go:124",#[⟨1,.data⟩],none⟩] false).seq (Code.cond (Operand.tmp 277) (Code.region 56 #[
  ⟨some 278,.move (.tmp 0),47,"ref.go:125",#[],none⟩,
  ⟨some 279,.nilCheck (.tmp 278),0,"ref.go:125",#[⟨0,.data⟩,⟨0,.phase⟩],none⟩,
  ⟨some 280,.fieldAddr 89 (.tmp 279) 5,0,"ref.go:125",#[⟨1,.data⟩,⟨0,.phase⟩],none⟩,
  ⟨none,.store 33 (.tmp 280) (.const (.int .i64 11)),0,"ref.go:125",#[⟨2,.data⟩,⟨0,.phase⟩],none⟩] false) Code.skip))))) ((Code.region 57 #[
  ⟨some 282,.binOp .eql 3 (.tmp 42) (.const (.int .i64 17)) 3,4,"ref.go:127",#[],none⟩,
  ⟨some 281,.assign (.tmp 282),4,"ref.go:127",#[⟨0,.data⟩],none⟩] false).seq (Code.cond (Operand.tmp 281) ((Code.region 58 #[
  ⟨some 283,.move (.tmp 13),136,"ref.go:128",#[],none⟩,
  ⟨some 284,.call ⟨.value (.tmp 283),#[],#[]⟩,27,"ref.go:128",#[⟨0,.data⟩],none⟩,
  ⟨none,.store 27 (.tmp 10) (.tmp 284),0,"ref.go:128",#[⟨1,.data⟩,⟨1,.chain⟩,⟨0,.phase⟩,⟨1,.phase⟩],none⟩] false).seq Code.ret) Code.skip)))))))))))))))))))))))))))))))))
section
variable {p:Rp} {d:Nat} {T T1:Nat->Nat} {w wr W:World} {mb K:Nat} {R:Mc RSt × QV × Int} {av kv:Value} {gk G':Nat} {m:Mc RSt} {f:Fr} {c:Int} {n1 n2 n3 k:Nat} {x:QI} {hv sv ov:Value} {sa:Option Addr} {sc:Nat}
structure SwC (p:Rp)(d:Nat)(T:Nat->Nat)(w:World)(mb K:Nat)(R:Mc RSt × QV × Int)(av kv:Value)(gk G':Nat)(c:Int)(n1 n2 n3:Nat)(T1:Nat->Nat)(m:Mc RSt)(f:Fr)(wr W:World)(k:Nat)(x:QI)(hv sv ov:Value)(sa:Option Addr)(sc:Nat):Prop where
 X:Rx p
 en:xoY p d
 R:BdR p d T w mb K R av kv gk (.int .i64 (k:Int)) T1 m f 0 wr
 g:gk=G'+1
 nx:NxOk f k x
 mac:RMac p T1 wr mb m (20-(d:Int)) 0 hv sv ov
 fr:RF T1 K wr w.heap.size f av kv (.slice sa f.stack.length sc)
 scap:f.stack.length<=sc/\sc<=9223372036854775807
 len:xiO c n1 n2 n3 f
 bel:Below wr.heap.size wr W
 inb:InB W wr.heap.size x
 av':∃ a cap,av=.slice a n1 cap/\cap<=9223372036854775807
 t40:n2<=40
 min:MIn p.E m/\Few m/\FOk p.X.cz m.heap.length f/\PlOk f
theorem SwC.pre {p:Rp}{d:Nat}{T:Nat->Nat}{w:World}{mb K:Nat}{R:Mc RSt × QV × Int}{av kv:Value}{gk G':Nat}{c:Int}{n1 n2 n3:Nat}{T1:Nat->Nat}{m:Mc RSt}{f:Fr}{wr W:World}{k:Nat}{x:QI}{hv sv ov:Value}{sa:Option Addr}{sc:Nat}(H:SwC p d T w mb K R av kv gk G' c n1 n2 n3 T1 m f wr W k x hv sv ov sa sc):Rx p/\Hid (xoY p d)/\Hid (BdR p d T w mb K R av kv gk (.int .i64 (k:Int)) T1 m f 0 wr)/\Hid (gk=G'+1)/\Hid (NxOk f k x)/\Hid (RMac p T1 wr mb m (20-(d:Int)) 0 hv sv ov)/\Hid (RF T1 K wr w.heap.size f av kv (.slice sa f.stack.length sc))/\Hid (xiO c n1 n2 n3 f)/\Hid (Below wr.heap.size wr W)/\Hid (MIn p.E m/\Few m/\FOk p.X.cz m.heap.length f/\PlOk f)/\RMac p T1 W mb m (20-(d:Int)) 0 hv sv ov/\RF T1 K W w.heap.size f av kv (.slice sa f.stack.length sc)/\f.stack.length<=sc/\sc<=9223372036854775807/\w.heap.size+4<wr.heap.size/\wr.heap.size<=W.heap.size/\InB W wr.heap.size x/\(∃ a cap,av=.slice a n1 cap/\cap<=9223372036854775807)/\n2<=40:=
 ⟨H.X,hid H.en,hid H.R,hid H.g,hid H.nx,hid H.mac,hid H.fr,hid H.len,hid H.bel,hid H.min,H.mac.later H.bel,H.fr.later H.bel,H.scap.1,H.scap.2,xaf H.fr.sb,H.bel.size,H.inb,H.av',H.t40⟩
def xf0 (p:Rp)(d:Nat)(T:Nat->Nat)(w:World)(mb K:Nat)(R:Mc RSt × QV × Int)(av kv:Value)(G':Nat)(c:Int)(n1 n2 n3:Nat)(T1:Nat->Nat)(m:Mc RSt)(f:Fr)(wr:World)(k:Nat)(x:QI)(tg:Int)(w':World):Prop:=
 (tg=(k:Int)+1/\BdX p d T w mb K R av kv c n1 n2 n3 G' (.int .i64 ((k:Int)+1)) w')\/
 (tg=x.a/\x.op≠17/\∃ f1 T2 hv sv ov st,Ext T1 T2 wr/\Kp (All K) T1 wr w'/\RMac p T2 w' mb m (20-(d:Int)) 0 hv sv ov/\RF T2 K w' w.heap.size f1 av kv st/\xiO c n1 n2 n3 f1/\xan (xa1 p.E d) p.E d m { f with pc:=f.pc+1 } f.pc x=xaX m f1 k x.a)
end
def Br (n:Int):Prop:=
 ∀ {p:Rp} {d:Nat} {T T1:Nat->Nat} {w wr W:World} {mb K:Nat} {R:Mc RSt × QV × Int} {av kv:Value} {gk G':Nat} {m:Mc RSt} {f:Fr} {c:Int} {n1 n2 n3 k:Nat} {x:QI} {hv sv ov:Value} {sa:Option Addr} {sc:Nat} (H:SwC p d T w mb K R av kv gk G' c n1 n2 n3 T1 m f wr W k x hv sv ov sa sc) (hop:x.op=n)
  {u0 u1 u2 u3 u4 u5 u6 u7 u8 u9 ua ub uc ud ue uf ug uh ui uj uk ul um un uo up uq ur us ut uu uv uw ux uy uz ua0 ua1 ua2 ua3 ua4 ua5 ua6 ua7 ua8 ua9
  uaa uab uac uad uae uaf uag uah uai uaj uak ual uam uan uao uap uaq uar uas uat uau uav uaw uax uay uaz ub0 ub1 ub2 ub3 ub4 ub5 ub6 ub7 ub8 ub9 uba ubb ubc ubd ube ubf ubg ubh
  ubi ubj ubk ubl ubm ubn ubo ubp ubq ubr ubs ubt ubu ubv ubw ubx uby ubz uc0 uc1 uc2 uc3 uc4 uc5 uc6 uc7 uc8 uc9 uca ucb ucc ucd uce ucf ucg uch
  uci ucj uck ucl ucm ucn uco ucp ucq ucr ucs uct ucu ucv ucw ucx ucy ucz ud0 ud1 ud2 ud3 ud4 ud5 ud6 ud7 ud8 ud9 uda udb udc udd ude udf udg udh
  udi udj udk udl udm udn udo udp udq udr uds udt udu udv udw udx udy udz ue0 ue1 ue2 ue3 ue4 ue5 ue6 ue7 ue8 ue9 uea ueb uec ued uee uef ueg ueh
  uei uej uek uel uem uen ueo uep ueq uer ues uet ueu uev uew uex uey uez uf0 uf1 uf2 uf3 uf4 uf5 uf6 uf7 uf8 uf9 ufa ufb ufc ufd ufe uff ufg ufh
  ufi ufj ufk ufl ufm ufn ufo ufp ufq ufr ufs uft ufu ufv ufw ufx ufy ufz ug0 ug1 ug2 ug3 ug4 ug5 ug6 ug7 ug8 ug9 uga ugb ugc ugd uge ugf ugg ugh
  ugi ugj ugk ugl ugm ugn ugo ugp ugq ugr ugs ugt ugu ugv ugw ugx ugy ugz uh0 uh1 uh2 uh3:Value}
  {KT K2 K3:Act->World->Prop}
  (hN:∀ (u5 u6 u7 u8 u9 ua ub uc uu uv uw ux uy uz ua0 ua1 ua2 ua3 ua4 ua5 ua6 ua7 ua8 ua9 uaa uab uac uad uae uaf uag uah uai uaj uak ual uam uan uao uap uaq uar uas uat uau
  uav uaw uax uay uaz ub0 ub1 ub2 ub3 ub4 ub5 ub6 ub7 ub8 ub9 uba ubb ubc ubd ube ubf ubg ubh ubi ubj ubk ubl ubm ubn ubo ubp ubq ubr ubs ubt ubu ubv ubw ubx uby
  ubz uc0 uc1 uc2 uc3 uc4 uc5 uc6 uc7 uc8 uc9 uca ucb ucc ucd uce ucf ucg uch uci ucj uck ucl ucm ucn uco ucp ucq ucr ucs uct ucu ucv ucw ucx ucy
  ucz ud0 ud1 ud2 ud3 ud4 ud5 ud6 ud7 ud8 ud9 uda udb udc udd ude udf udg udh udi udj udk udl udm udn udo udp udq udr uds udt udu udv udw udx udy
  udz ue0 ue1 ue2 ue3 ue4 ue5 ue6 ue7 ue8 ue9 uea ueb uec ued uee uef ueg ueh uei uej uek uel uem uen ueo uep ueq uer ues uet ueu uev uew uex uey
  uez uf0 uf1 uf2 uf3 uf4 uf5 uf6 uf7 uf8 uf9 ufa ufb ufc ufd ufe uff ufg ufh ufi ufj ufk ufl ufm ufn ufo ufp ufq ufr ufs uft ufu ufv ufw ufx ufy
  ufz ug0 ug1 ug2 ug3 ug4 ug5 ug6 ug7 ug8 ug9 uga ugb ugc ugd uge ugf ugg ugh ugi ugj:Value) (tg:Int) (w':World),xf0 p d T w mb K R av kv G' c n1 n2 n3 T1 m f wr k x tg w'->KT (Act.mk #[.pointer (some ⟨mb,0,none⟩),.int .i64 c,u0,u1,av,u2,u3,.pointer (some ⟨w.heap.size,0,none⟩),.pointer (some ⟨w.heap.size+1,0,none⟩),u4,.pointer (some
  ⟨w.heap.size+2,0,none⟩),.slice (some ⟨w.heap.size+3,0,none⟩) n2 n2,.pointer (some ⟨w.heap.size+4,0,none⟩),.func (.func 68) #[] #[.pointer (some ⟨w.heap.size+4,0,
  none⟩)],.int .i64 (k:Int),.pointer (some ⟨wr.heap.size,0,none⟩),.int .i64 tg,u5,u6,u7,u8,u9,ua,ub,uc,ud,ue,uf,ug,uh,ui,uj,uk,ul,um,un,
  uo,up,uq,ur,us,ut,.int .i64 n,uu,uv,uw,ux,uy,uz,ua0,ua1,ua2,ua3,ua4,ua5,ua6,ua7,ua8,ua9,uaa,uab,uac,uad,uae,uaf,uag,uah,uai,uaj,uak,
  ual,uam,uan,uao,uap,uaq,uar,uas,uat,uau,uav,uaw,uax,uay,uaz,ub0,ub1,ub2,ub3,ub4,ub5,ub6,ub7,ub8,ub9,uba,ubb,ubc,ubd,ube,ubf,ubg,ubh,ubi,ubj,
  ubk,ubl,ubm,ubn,ubo,ubp,ubq,ubr,ubs,ubt,ubu,ubv,ubw,ubx,uby,ubz,uc0,uc1,uc2,uc3,uc4,uc5,uc6,uc7,uc8,uc9,uca,ucb,ucc,ucd,
  uce,ucf,ucg,uch,uci,ucj,uck,ucl,ucm,ucn,uco,ucp,ucq,ucr,ucs,uct,ucu,ucv,ucw,ucx,ucy,ucz,ud0,ud1,ud2,ud3,ud4,ud5,ud6,ud7,
  ud8,ud9,uda,udb,udc,udd,ude,udf,udg,udh,udi,udj,udk,udl,udm,udn,udo,udp,udq,udr,uds,udt,udu,udv,udw,udx,udy,udz,ue0,ue1,
  ue2,ue3,ue4,ue5,ue6,ue7,ue8,ue9,uea,ueb,uec,ued,uee,uef,ueg,ueh,uei,uej,uek,uel,uem,uen,ueo,uep,ueq,uer,ues,uet,ueu,uev,
  uew,uex,uey,uez,uf0,uf1,uf2,uf3,uf4,uf5,uf6,uf7,uf8,uf9,ufa,ufb,ufc,ufd,ufe,uff,ufg,ufh,ufi,ufj,ufk,ufl,ufm,ufn,ufo,ufp,
  ufq,ufr,ufs,uft,ufu,ufv,ufw,ufx,ufy,ufz,ug0,ug1,ug2,ug3,ug4,ug5,ug6,ug7,ug8,ug9,uga,ugb,ugc,ugd,uge,ugf,ugg,ugh,ugi,ugj,
  ugk,ugl,ugm,ugn,ugo,ugp,ugq,ugr,ugs,ugt,ugu,ugv,ugw,ugx,ugy,ugz,uh0,uh1,uh2,uh3] []) w')
  {K9:Act->World->Prop} (hK9:∀ a w',Code.wp Tryz.prog sw9 (Exit.inBlock 2 (Exit.then KT (Exit.inBlock 1 (Exit.then K2 (Exit.inBlock 0 (Exit.then K3 (bodyPost Tryz.prog Tryz.f52 fun e w'=>xaS p T w mb (20-(d:Int)) K R e w'))))))) a w'->K9 a w'),
 Code.wp Tryz.prog xdw (Exit.then K9 (Exit.inBlock 2 (Exit.then KT (Exit.inBlock 1 (Exit.then K2 (Exit.inBlock 0 (Exit.then K3 (bodyPost Tryz.prog Tryz.f52 fun e w'=>xaS p T w mb (20-(d:Int)) K R e w')))))))) (Act.mk #[.pointer (some ⟨mb,0,none⟩),.int .i64 c,u0,u1,av,u2,u3,.pointer (some ⟨w.heap.size,0,none⟩),.pointer (some ⟨w.heap.size+1,0,none⟩),u4,.pointer (some
  ⟨w.heap.size+2,0,none⟩),.slice (some ⟨w.heap.size+3,0,none⟩) n2 n2,.pointer (some ⟨w.heap.size+4,0,none⟩),.func (.func 68) #[] #[.pointer (some ⟨w.heap.size+4,0,
  none⟩)],.int .i64 (k:Int),.pointer (some ⟨wr.heap.size,0,none⟩),.int .i64 ((k:Int)+1),u5,u6,u7,u8,u9,ua,ub,uc,ud,ue,uf,ug,uh,ui,uj,uk,
  ul,um,un,uo,up,uq,ur,us,ut,.int .i64 n,uu,uv,uw,ux,uy,uz,ua0,ua1,ua2,ua3,ua4,ua5,ua6,ua7,ua8,ua9,uaa,uab,uac,uad,uae,uaf,uag,uah,
  uai,uaj,uak,ual,uam,uan,uao,uap,uaq,uar,uas,uat,uau,uav,uaw,uax,uay,uaz,ub0,ub1,ub2,ub3,ub4,ub5,ub6,ub7,ub8,ub9,uba,ubb,ubc,ubd,ube,ubf,ubg,
  ubh,ubi,ubj,ubk,ubl,ubm,ubn,ubo,ubp,ubq,ubr,ubs,ubt,ubu,ubv,ubw,ubx,uby,ubz,uc0,uc1,uc2,uc3,uc4,uc5,uc6,uc7,uc8,uc9,uca,
  ucb,ucc,ucd,uce,ucf,ucg,uch,uci,ucj,uck,ucl,ucm,ucn,uco,ucp,ucq,ucr,ucs,uct,ucu,ucv,ucw,ucx,ucy,ucz,ud0,ud1,ud2,ud3,ud4,
  ud5,ud6,ud7,ud8,ud9,uda,udb,udc,udd,ude,udf,udg,udh,udi,udj,udk,udl,udm,udn,udo,udp,udq,udr,uds,udt,udu,udv,udw,udx,udy,
  udz,ue0,ue1,ue2,ue3,ue4,ue5,ue6,ue7,ue8,ue9,uea,ueb,uec,ued,uee,uef,ueg,ueh,uei,uej,uek,uel,uem,uen,ueo,uep,ueq,uer,ues,
  uet,ueu,uev,uew,uex,uey,uez,uf0,uf1,uf2,uf3,uf4,uf5,uf6,uf7,uf8,uf9,ufa,ufb,ufc,ufd,ufe,uff,ufg,ufh,ufi,ufj,ufk,ufl,ufm,
  ufn,ufo,ufp,ufq,ufr,ufs,uft,ufu,ufv,ufw,ufx,ufy,ufz,ug0,ug1,ug2,ug3,ug4,ug5,ug6,ug7,ug8,ug9,uga,ugb,ugc,ugd,uge,ugf,ugg,
  ugh,ugi,ugj,ugk,ugl,ugm,ugn,ugo,ugp,ugq,ugr,ugs,ugt,ugu,ugv,ugw,ugx,ugy,ugz,uh0,uh1,uh2,uh3] []) W
end Go.Proofs.YtapbeiccodnniaaGreat
