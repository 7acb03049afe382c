/- A part. -/
import Derived.Test.YtdfbgpiikeheiaaQ17
namespace Go.Proofs.Ytdfbgpiikeheiaa
open Go.ChangeShapes Go.WideShapes Go.ChangeAt Go.RowKit
set_option linter.unusedSimpArgs false
set_option linter.unusedVariables false
set_option maxHeartbeats 8000000
set_option maxRecDepth 8000
def xh4:Code:=(Code.region 9 #[
  ⟨some 44,.binOp .eql 3 (.tmp 42) (.const (.int .i64 1)) 3,4,"ref.go:74",#[],none⟩,
  ⟨some 43,.assign (.tmp 44),4,"ref.go:74",#[⟨0,.data⟩],none⟩] false)
def sw9:Code:=(Code.cond (Operand.tmp 43) (Code.region 10 #[
  ⟨some 45,.load 28 (.tmp 12),28,"ref.go:75",#[],none⟩,
  ⟨some 46,.load 27 (.tmp 8),27,"ref.go:75",#[],none⟩,
  ⟨some 47,.buildSlice 28 1 #[(0,.tmp 46)],28,"ref.go:75",#[⟨1,.data⟩],none⟩,
  ⟨some 48,.call ⟨.builtin .append,#[.tmp 45,.tmp 47],#[28,28]⟩,28,"ref.go:75",#[⟨0,.data⟩,⟨2,.data⟩],none⟩,
  ⟨none,.store 28 (.tmp 12) (.tmp 48),0,"ref.go:75",#[⟨3,.data⟩,⟨3,.chain⟩,⟨0,.phase⟩,⟨1,.phase⟩,⟨2,.phase⟩,⟨3,.phase⟩],none⟩] false) ((Code.region 11 #[
  ⟨some 50,.binOp .eql 3 (.tmp 42) (.const (.int .i64 2)) 3,4,"ref.go:76",#[],none⟩,
  ⟨some 49,.assign (.tmp 50),4,"ref.go:76",#[⟨0,.data⟩],none⟩] false).seq (Code.cond (Operand.tmp 49) (Code.region 12 #[
  ⟨some 51,.load 28 (.tmp 12),28,"ref.go:77",#[],none⟩,
  ⟨some 52,.move (.tmp 4),28,"ref.go:77",#[],none⟩,
  ⟨some 53,.fieldAddr 59 (.tmp 15) 1,0,"ref.go:77",#[],none⟩,
  ⟨some 54,.load 3 (.tmp 53),3,"ref.go:77",#[⟨2,.data⟩],none⟩,
  ⟨some 55,.indexAddr 28 (.tmp 52) (.tmp 54),0,"ref.go:77",#[⟨1,.data⟩,⟨3,.data⟩],none⟩,
  ⟨some 56,.load 27 (.tmp 55),27,"ref.go:77",#[⟨4,.data⟩],none⟩,
  ⟨some 57,.buildSlice 28 1 #[(0,.tmp 56)],28,"ref.go:77",#[⟨5,.data⟩],none⟩,
  ⟨some 58,.call ⟨.builtin .append,#[.tmp 51,.tmp 57],#[28,28]⟩,28,"ref.go:77",#[⟨0,.data⟩,⟨6,.data⟩],none⟩,
  ⟨none,.store 28 (.tmp 12) (.tmp 58),0,"ref.go:77",#[⟨7,.data⟩,⟨7,.chain⟩,⟨0,.phase⟩,⟨1,.phase⟩,⟨2,.phase⟩,⟨3,.phase⟩,⟨4,.phase⟩,⟨5,.phase⟩,⟨6,.phase⟩,⟨7,.phase⟩],none⟩] true) ((Code.region 13 #[
  ⟨some 60,.binOp .eql 3 (.tmp 42) (.const (.int .i64 3)) 3,4,"ref.go:78",#[],none⟩,
  ⟨some 59,.assign (.tmp 60),4,"ref.go:78",#[⟨0,.data⟩],none⟩] false).seq (Code.cond (Operand.tmp 59) (Code.region 14 #[
  ⟨some 61,.load 28 (.tmp 12),28,"ref.go:79",#[],none⟩,
  ⟨some 62,.move (.tmp 11),28,"ref.go:79",#[],none⟩,
  ⟨some 63,.fieldAddr 59 (.tmp 15) 1,0,"ref.go:79",#[],none⟩,
  ⟨some 64,.load 3 (.tmp 63),3,"ref.go:79",#[⟨2,.data⟩],none⟩,
  ⟨some 65,.indexAddr 28 (.tmp 62) (.tmp 64),0,"ref.go:79",#[⟨1,.data⟩,⟨3,.data⟩],none⟩,
  ⟨some 66,.load 27 (.tmp 65),27,"ref.go:79",#[⟨4,.data⟩],none⟩,
  ⟨some 67,.buildSlice 28 1 #[(0,.tmp 66)],28,"ref.go:79",#[⟨5,.data⟩],none⟩,
  ⟨some 68,.call ⟨.builtin .append,#[.tmp 61,.tmp 67],#[28,28]⟩,28,"ref.go:79",#[⟨0,.data⟩,⟨6,.data⟩],none⟩,
  ⟨none,.store 28 (.tmp 12) (.tmp 68),0,"ref.go:79",#[⟨7,.data⟩,⟨7,.chain⟩,⟨0,.phase⟩,⟨1,.phase⟩,⟨2,.phase⟩,⟨3,.phase⟩,⟨4,.phase⟩,⟨5,.phase⟩,⟨6,.phase⟩,⟨7,.phase⟩],none⟩] true) ((Code.region 15 #[
  ⟨some 70,.binOp .eql 3 (.tmp 42) (.const (.int .i64 4)) 3,4,"ref.go:80",#[],none⟩,
  ⟨some 69,.assign (.tmp 70),4,"ref.go:80",#[⟨0,.data⟩],none⟩] false).seq (Code.cond (Operand.tmp 69) (Code.region 16 #[
  ⟨some 71,.load 28 (.tmp 12),28,"ref.go:81",#[],none⟩,
  ⟨some 72,.move (.tmp 0),69,"ref.go:81",#[],none⟩,
  ⟨some 73,.nilCheck (.tmp 72),0,"ref.go:81",#[⟨1,.data⟩],none⟩,
  ⟨some 74,.fieldAddr 113 (.tmp 73) 0,0,"ref.go:81",#[⟨2,.data⟩],none⟩,
  ⟨some 75,.fieldAddr 25 (.tmp 74) 1,0,"ref.go:81",#[⟨3,.data⟩],none⟩,
  ⟨some 76,.load 23 (.tmp 75),23,"ref.go:81",#[⟨4,.data⟩],none⟩,
  ⟨some 77,.load 27 (.tmp 8),27,"ref.go:81",#[],none⟩,
  ⟨some 78,.fieldAddr 59 (.tmp 15) 1,0,"ref.go:81",#[],none⟩,
  ⟨some 79,.load 3 (.tmp 78),3,"ref.go:81",#[⟨7,.data⟩],none⟩,
  ⟨some 80,.call ⟨.value (.func 87),#[.tmp 76,.tmp 77,.tmp 79],#[23,27,3]⟩,27,"ref.go:81",#[⟨5,.data⟩,⟨6,.data⟩,⟨8,.data⟩],none⟩,
  ⟨some 81,.buildSlice 28 1 #[(0,.tmp 80)],28,"ref.go:81",#[⟨9,.data⟩],none⟩,
  ⟨some 82,.call ⟨.builtin .append,#[.tmp 71,.tmp 81],#[28,28]⟩,28,"ref.go:81",#[⟨0,.data⟩,⟨10,.data⟩,⟨9,.chain⟩],none⟩,
  ⟨none,.store 28 (.tmp 12) (.tmp 82),0,"ref.go:81",#[⟨11,.data⟩,⟨11,.chain⟩,⟨0,.phase⟩,⟨1,.phase⟩,⟨2,.phase⟩,⟨3,.phase⟩,⟨4,.phase⟩,⟨5,.phase⟩,⟨6,.phase⟩,⟨7,.phase⟩,⟨8,.phase⟩,⟨9,.phase⟩,⟨10,.phase⟩,⟨11,.phase⟩],none⟩] true) ((Code.region 17 #[
  ⟨some 84,.binOp .eql 3 (.tmp 42) (.const (.int .i64 5)) 3,4,"ref.go:82",#[],none⟩,
  ⟨some 83,.assign (.tmp 84),4,"ref.go:82",#[⟨0,.data⟩],none⟩] false).seq (Code.cond (Operand.tmp 83) (Code.region 18 #[
  ⟨some 85,.load 28 (.tmp 12),28,"ref.go:83",#[],none⟩,
  ⟨some 86,.fieldAddr 59 (.tmp 15) 1,0,"ref.go:83",#[],none⟩,
  ⟨some 87,.load 3 (.tmp 86),3,"ref.go:83",#[⟨1,.data⟩],none⟩,
  ⟨some 88,.build 27 #[(0,.const (.int .i64 3)),(1,.tmp 87)],27,"ref.go:83",#[⟨2,.data⟩],none⟩,
  ⟨some 89,.buildSlice 28 1 #[(0,.tmp 88)],28,"ref.go:83",#[⟨3,.data⟩],none⟩,
  ⟨some 90,.call ⟨.builtin .append,#[.tmp 85,.tmp 89],#[28,28]⟩,28,"ref.go:83",#[⟨0,.data⟩,⟨4,.data⟩],none⟩,
  ⟨none,.store 28 (.tmp 12) (.tmp 90),0,"ref.go:83",#[⟨5,.data⟩,⟨5,.chain⟩,⟨0,.phase⟩,⟨1,.phase⟩,⟨2,.phase⟩,⟨3,.phase⟩,⟨4,.phase⟩,⟨5,.phase⟩],none⟩] false) ((Code.region 19 #[
  ⟨some 92,.binOp .eql 3 (.tmp 42) (.const (.int .i64 6)) 3,4,"ref.go:84",#[],none⟩,
  ⟨some 91,.assign (.tmp 92),4,"ref.go:84",#[⟨0,.data⟩],none⟩] false).seq (Code.cond (Operand.tmp 91) (Code.region 20 #[
  ⟨some 93,.load 28 (.tmp 12),28,"ref.go:85",#[],none⟩,
  ⟨some 94,.build 27 #[],27,"ref.go:85",#[],none⟩,
  ⟨some 95,.buildSlice 28 1 #[(0,.tmp 94)],28,"ref.go:85",#[⟨1,.data⟩],none⟩,
  ⟨some 96,.call ⟨.builtin .append,#[.tmp 93,.tmp 95],#[28,28]⟩,28,"ref.go:85",#[⟨0,.data⟩,⟨2,.data⟩],none⟩,
  ⟨none,.store 28 (.tmp 12) (.tmp 96),0,"ref.go:85",#[⟨3,.data⟩,⟨3,.chain⟩,⟨0,.phase⟩,⟨1,.phase⟩,⟨2,.phase⟩,⟨3,.phase⟩],none⟩] false) ((Code.region 21 #[
  ⟨some 98,.binOp .eql 3 (.tmp 42) (.const (.int .i64 7)) 3,4,"ref.go:86",#[],none⟩,
  ⟨some 97,.assign (.tmp 98),4,"ref.go:86",#[⟨0,.data⟩],none⟩] false).seq (Code.cond (Operand.tmp 97) (Code.region 22 #[
  ⟨some 99,.load 28 (.tmp 12),28,"ref.go:87",#[],none⟩,
  ⟨some 100,.call ⟨.value (.func 85),#[.const (.bool false)],#[4]⟩,27,"ref.go:87",#[],none⟩,
  ⟨some 101,.buildSlice 28 1 #[(0,.tmp 100)],28,"ref.go:87",#[⟨1,.data⟩],none⟩,
  ⟨some 102,.call ⟨.builtin .append,#[.tmp 99,.tmp 101],#[28,28]⟩,28,"ref.go:87",#[⟨0,.data⟩,⟨2,.data⟩,⟨1,.chain⟩],none⟩,
  ⟨none,.store 28 (.tmp 12) (.tmp 102),0,"ref.go:87",#[⟨3,.data⟩,⟨3,.chain⟩,⟨0,.phase⟩,⟨1,.phase⟩,⟨2,.phase⟩,⟨3,.phase⟩],none⟩] true) ((Code.region 23 #[
  ⟨some 104,.binOp .eql 3 (.tmp 42) (.const (.int .i64 8)) 3,4,"ref.go:88",#[],none⟩,
  ⟨some 103,.assign (.tmp 104),4,"ref.go:88",#[⟨0,.data⟩],none⟩] false).seq (Code.cond (Operand.tmp 103) (Code.region 24 #[
  ⟨some 105,.load 28 (.tmp 12),28,"ref.go:89",#[],none⟩,
  ⟨some 106,.call ⟨.value (.func 85),#[.const (.bool true)],#[4]⟩,27,"ref.go:89",#[],none⟩,
  ⟨some 107,.buildSlice 28 1 #[(0,.tmp 106)],28,"ref.go:89",#[⟨1,.data⟩],none⟩,
  ⟨some 108,.call ⟨.builtin .append,#[.tmp 105,.tmp 107],#[28,28]⟩,28,"ref.go:89",#[⟨0,.data⟩,⟨2,.data⟩,⟨1,.chain⟩],none⟩,
  ⟨none,.store 28 (.tmp 12) (.tmp 108),0,"ref.go:89",#[⟨3,.data⟩,⟨3,.chain⟩,⟨0,.phase⟩,⟨1,.phase⟩,⟨2,.phase⟩,⟨3,.phase⟩],none⟩] true) ((Code.region 25 #[
  ⟨some 110,.binOp .eql 3 (.tmp 42) (.const (.int .i64 9)) 3,4,"ref.go:90",#[],none⟩,
  ⟨some 109,.assign (.tmp 110),4,"ref.go:90",#[⟨0,.data⟩],none⟩] false).seq (Code.cond (Operand.tmp 109) (Code.region 26 #[
  ⟨some 111,.move (.tmp 13),159,"ref.go:91",#[],none⟩,
  ⟨some 112,.call ⟨.value (.tmp 111),#[],#[]⟩,27,"ref.go:91",#[⟨0,.data⟩],none⟩] false) ((Code.region 27 #[
  ⟨some 114,.binOp .eql 3 (.tmp 42) (.const (.int .i64 10)) 3,4,"ref.go:92",#[],none⟩,
  ⟨some 113,.assign (.tmp 114),4,"ref.go:92",#[⟨0,.data⟩],none⟩] false).seq (Code.cond (Operand.tmp 113) ((Code.region 28 #[
  ⟨some 115,.move (.tmp 13),159,"ref.go:93",#[],none⟩,
  ⟨some 116,.call ⟨.value (.tmp 115),#[],#[]⟩,27,"ref.go:93",#[⟨0,.data⟩],none⟩,
  ⟨some 17,.alloc 27,0,"ref.go:93",#[],none⟩,
  ⟨none,.store 27 (.tmp 17) (.tmp 116),0,"ref.go:93",#[⟨2,.data⟩,⟨1,.data⟩,⟨1,.chain⟩,⟨0,.phase⟩,⟨1,.phase⟩,⟨2,.phase⟩],none⟩] false).seq (Code.region 29 #[
  ⟨some 117,.load 28 (.tmp 12),28,"ref.go:94",#[],none⟩,
  ⟨some 118,.load 27 (.tmp 17),27,"ref.go:94",#[],none⟩,
  ⟨some 119,.load 27 (.tmp 17),27,"ref.go:94",#[],none⟩,
  ⟨some 120,.buildSlice 28 2 #[(0,.tmp 118),(1,.tmp 119)],28,"ref.go:94",#[⟨1,.data⟩,⟨2,.data⟩],none⟩,
  ⟨some 121,.call ⟨.builtin .append,#[.tmp 117,.tmp 120],#[28,28]⟩,28,"ref.go:94",#[⟨0,.data⟩,⟨3,.data⟩],none⟩,
  ⟨none,.store 28 (.tmp 12) (.tmp 121),0,"ref.go:94",#[⟨4,.data⟩,⟨4,.chain⟩,⟨0,.phase⟩,⟨1,.phase⟩,⟨2,.phase⟩,⟨3,.phase⟩,⟨4,.phase⟩],none⟩] false)) ((Code.region 30 #[
  ⟨some 123,.binOp .eql 3 (.tmp 42) (.const (.int .i64 11)) 3,4,"ref.go:95",#[],none⟩,
  ⟨some 122,.assign (.tmp 123),4,"ref.go:95",#[⟨0,.data⟩],none⟩] false).seq (Code.cond (Operand.tmp 122) (Code.region 31 #[
  ⟨some 124,.move (.tmp 11),28,"ref.go:96",#[],none⟩,
  ⟨some 125,.fieldAddr 59 (.tmp 15) 1,0,"ref.go:96",#[],none⟩,
  ⟨some 126,.load 3 (.tmp 125),3,"ref.go:96",#[⟨1,.data⟩],none⟩,
  ⟨some 127,.move (.tmp 13),159,"ref.go:96",#[],none⟩,
  ⟨some 128,.call ⟨.value (.tmp 127),#[],#[]⟩,27,"ref.go:96",#[⟨3,.data⟩],none⟩,
  ⟨some 129,.indexAddr 28 (.tmp 124) (.tmp 126),0,"ref.go:96",#[⟨0,.data⟩,⟨2,.data⟩,⟨0,.phase⟩,⟨1,.phase⟩,⟨2,.phase⟩,⟨3,.phase⟩,⟨4,.phase⟩],none⟩,
  ⟨none,.store 27 (.tmp 129) (.tmp 128),0,"ref.go:96",#[⟨5,.data⟩,⟨4,.data⟩,⟨4,.chain⟩,⟨0,.phase⟩,⟨1,.phase⟩,⟨2,.phase⟩,⟨3,.phase⟩,⟨4,.phase⟩],none⟩] true) ((Code.region 32 #[
  ⟨some 131,.binOp .eql 3 (.tmp 42) (.const (.int .i64 12)) 3,4,"ref.go:97",#[],none⟩,
  ⟨some 130,.assign (.tmp 131),4,"ref.go:97",#[⟨0,.data⟩],none⟩] false).seq (Code.cond (Operand.tmp 130) (Code.region 33 #[
  ⟨some 132,.move (.tmp 0),69,"ref.go:98",#[],none⟩,
  ⟨some 133,.load 27 (.tmp 8),27,"ref.go:98",#[],none⟩,
  ⟨some 134,.fieldAddr 59 (.tmp 15) 1,0,"ref.go:98",#[],none⟩,
  ⟨some 135,.load 3 (.tmp 134),3,"ref.go:98",#[⟨2,.data⟩],none⟩,
  ⟨some 136,.move (.tmp 13),159,"ref.go:98",#[],none⟩,
  ⟨some 137,.call ⟨.value (.tmp 136),#[],#[]⟩,27,"ref.go:98",#[⟨4,.data⟩],none⟩,
  ⟨some 138,.call ⟨.value (.func 88),#[.tmp 132,.tmp 133,.tmp 135,.tmp 137],#[69,27,3,27]⟩,0,"ref.go:98",#[⟨0,.data⟩,⟨1,.data⟩,⟨3,.data⟩,⟨5,.data⟩,⟨5,.chain⟩],none⟩] true) ((Code.region 34 #[
  ⟨some 140,.binOp .eql 3 (.tmp 42) (.const (.int .i64 13)) 3,4,"ref.go:99",#[],none⟩,
  ⟨some 139,.assign (.tmp 140),4,"ref.go:99",#[⟨0,.data⟩],none⟩] false).seq (Code.cond (Operand.tmp 139) (((Code.region 35 #[
  ⟨some 141,.move (.tmp 0),69,"ref.go:100",#[],none⟩,
  ⟨some 142,.nilCheck (.tmp 141),0,"ref.go:100",#[⟨0,.data⟩],none⟩,
  ⟨some 143,.fieldAddr 113 (.tmp 142) 0,0,"ref.go:100",#[⟨1,.data⟩],none⟩,
  ⟨some 144,.fieldAddr 25 (.tmp 143) 1,0,"ref.go:100",#[⟨2,.data⟩],none⟩,
  ⟨some 145,.load 23 (.tmp 144),23,"ref.go:100",#[⟨3,.data⟩],none⟩,
  ⟨some 146,.call ⟨.builtin .len,#[.tmp 145],#[23]⟩,3,"ref.go:100",#[⟨4,.data⟩],none⟩,
  ⟨some 147,.binOp .geq 3 (.tmp 146) (.const (.int .i64 60)) 3,4,"ref.go:100",#[⟨5,.data⟩],none⟩] false).seq (Code.cond (Operand.tmp 147) ((Code.region 36 #[
  ⟨some 148,.move (.tmp 0),69,"ref.go:101",#[],none⟩,
  ⟨some 149,.nilCheck (.tmp 148),0,"ref.go:101",#[⟨0,.data⟩,⟨0,.phase⟩],none⟩,
  ⟨some 150,.fieldAddr 113 (.tmp 149) 5,0,"ref.go:101",#[⟨1,.data⟩,⟨0,.phase⟩],none⟩,
  ⟨none,.store 32 (.tmp 150) (.const (.int .i64 15)),0,"ref.go:101",#[⟨2,.data⟩,⟨0,.phase⟩],none⟩] false).seq (Code.exit 2)) Code.skip)).seq ((Code.region 37 #[
  ⟨some 151,.load 28 (.tmp 12),28,"ref.go:104",#[],none⟩,
  ⟨some 152,.move (.tmp 0),69,"ref.go:104",#[],none⟩,
  ⟨some 153,.nilCheck (.tmp 152),0,"ref.go:104",#[⟨1,.data⟩],none⟩,
  ⟨some 154,.fieldAddr 113 (.tmp 153) 0,0,"ref.go:104",#[⟨2,.data⟩],none⟩,
  ⟨some 155,.fieldAddr 25 (.tmp 154) 1,0,"ref.go:104",#[⟨3,.data⟩],none⟩,
  ⟨some 156,.load 23 (.tmp 155),23,"ref.go:104",#[⟨4,.data⟩],none⟩,
  ⟨some 157,.call ⟨.builtin .len,#[.tmp 156],#[23]⟩,3,"ref.go:104",#[⟨5,.data⟩],none⟩,
  ⟨some 158,.build 27 #[(0,.const (.int .i64 4)),(1,.tmp 157)],27,"ref.go:104",#[⟨6,.data⟩],none⟩,
  ⟨some 159,.buildSlice 28 1 #[(0,.tmp 158)],28,"ref.go:104",#[⟨7,.data⟩],none⟩,
  ⟨some 160,.call ⟨.builtin .append,#[.tmp 151,.tmp 159],#[28,28]⟩,28,"ref.go:104",#[⟨0,.data⟩,⟨8,.data⟩],none⟩,
  ⟨none,.store 28 (.tmp 12) (.tmp 160),0,"ref.go:104",#[⟨9,.data⟩,⟨9,.chain⟩,⟨0,.phase⟩,⟨1,.phase⟩,⟨2,.phase⟩,⟨3,.phase⟩,⟨4,.phase⟩,⟨5,.phase⟩,⟨6,.phase⟩,⟨7,.phase⟩,⟨8,.phase⟩,⟨9,.phase⟩],none⟩] true).seq (Code.region 38 #[
  ⟨some 161,.move (.tmp 0),69,"ref.go:105",#[],none⟩,
  ⟨some 162,.buildSlice 23 0 #[],23,"ref.go:105",#[],none⟩,
  ⟨some 163,.move (.tmp 0),69,"ref.go:105",#[],none⟩,
  ⟨some 164,.nilCheck (.tmp 163),0,"ref.go:105",#[⟨2,.data⟩],none⟩,
  ⟨some 165,.fieldAddr 113 (.tmp 164) 0,0,"ref.go:105",#[⟨3,.data⟩],none⟩,
  ⟨some 166,.fieldAddr 25 (.tmp 165) 1,0,"ref.go:105",#[⟨4,.data⟩],none⟩,
  ⟨some 167,.load 23 (.tmp 166),23,"ref.go:105",#[⟨5,.data⟩],none⟩,
  ⟨some 168,.call ⟨.builtin .append,#[.tmp 162,.tmp 167],#[23,23]⟩,23,"ref.go:105",#[⟨1,.data⟩,⟨6,.data⟩],none⟩,
  ⟨some 169,.fieldAddr 59 (.tmp 15) 1,0,"ref.go:105",#[],none⟩,
  ⟨some 170,.load 3 (.tmp 169),3,"ref.go:105",#[⟨8,.data⟩],none⟩,
  ⟨some 171,.move (.tmp 0),69,"ref.go:105",#[],none⟩,
  ⟨some 172,.nilCheck (.tmp 171),0,"ref.go:105",#[⟨10,.data⟩],none⟩,
  ⟨some 173,.fieldAddr 113 (.tmp 172) 0,0,"ref.go:105",#[⟨11,.data⟩],none⟩,
  ⟨some 174,.load 25 (.tmp 173),25,"ref.go:105",#[⟨12,.data⟩],none⟩,
  ⟨some 175,.fieldAddr 59 (.tmp 15) 1,0,"ref.go:105",#[],none⟩,
  ⟨some 176,.load 3 (.tmp 175),3,"ref.go:105",#[⟨14,.data⟩],none⟩,
  ⟨some 177,.call ⟨.value (.func 21),#[.tmp 174,.tmp 176],#[25,3]⟩,3,"ref.go:105",#[⟨13,.data⟩,⟨15,.data⟩,⟨7,.chain⟩],none⟩,
  ⟨some 178,.makeSlice 28 (.tmp 177) (.tmp 177),28,"ref.go:105",#[⟨16,.data⟩,⟨16,.data⟩],none⟩,
  ⟨some 179,.build 82 #[(0,.tmp 170),(1,.tmp 178)],82,"ref.go:105",#[⟨9,.data⟩,⟨17,.data⟩],none⟩,
  ⟨some 180,.buildSlice 23 1 #[(0,.tmp 179)],23,"ref.go:105",#[⟨18,.data⟩],none⟩,
  ⟨some 181,.call ⟨.builtin .append,#[.tmp 168,.tmp 180],#[23,23]⟩,23,"ref.go:105",#[⟨7,.data⟩,⟨19,.data⟩,⟨16,.chain⟩],none⟩,
  ⟨some 182,.nilCheck (.tmp 161),0,"ref.go:105",#[⟨0,.data⟩,⟨0,.phase⟩,⟨1,.phase⟩,⟨2,.phase⟩,⟨3,.phase⟩,⟨4,.phase⟩,⟨5,.phase⟩,⟨6,.phase⟩,⟨7,.phase⟩,⟨8,.phase⟩,⟨9,.phase⟩,⟨10,.phase⟩,⟨11,.phase⟩,⟨12,.phase⟩,⟨13,.phase⟩,⟨14,.phase⟩,⟨15,.phase⟩,⟨16,.phase⟩,⟨17,.phase⟩,⟨18,.phase⟩,⟨19,.phase⟩,⟨20,.phase⟩],none⟩,
  ⟨some 183,.fieldAddr 113 (.tmp 182) 0,0,"ref.go:105",#[⟨21,.data⟩,⟨0,.phase⟩,⟨1,.phase⟩,⟨2,.phase⟩,⟨3,.phase⟩,⟨4,.phase⟩,⟨5,.phase⟩,⟨6,.phase⟩,⟨7,.phase⟩,⟨8,.phase⟩,⟨9,.phase⟩,⟨10,.phase⟩,⟨11,.phase⟩,⟨12,.phase⟩,⟨13,.phase⟩,⟨14,.phase⟩,⟨15,.phase⟩,⟨16,.phase⟩,⟨17,.phase⟩,⟨18,.phase⟩,⟨19,.phase⟩,⟨20,.phase⟩],none⟩,
  ⟨some 184,.fieldAddr 25 (.tmp 183) 1,0,"ref.go:105",#[⟨22,.data⟩,⟨0,.phase⟩,⟨1,.phase⟩,⟨2,.phase⟩,⟨3,.phase⟩,⟨4,.phase⟩,⟨5,.phase⟩,⟨6,.phase⟩,⟨7,.phase⟩,⟨8,.phase⟩,⟨9,.phase⟩,⟨10,.phase⟩,⟨11,.phase⟩,⟨12,.phase⟩,⟨13,.phase⟩,⟨14,.phase⟩,⟨15,.phase⟩,⟨16,.phase⟩,⟨17,.phase⟩,⟨18,.phase⟩,⟨19,.phase⟩,⟨20,.phase⟩],none⟩,
  ⟨none,.store 23 (.tmp 184) (.tmp 181),0,"ref.go:105",#[⟨23,.data⟩,⟨20,.data⟩,⟨20,.chain⟩,⟨0,.phase⟩,⟨1,.phase⟩,⟨2,.phase⟩,⟨3,.phase⟩,⟨4,.phase⟩,⟨5,.phase⟩,⟨6,.phase⟩,⟨7,.phase⟩,⟨8,.phase⟩,⟨9,.phase⟩,⟨10,.phase⟩,⟨11,.phase⟩,⟨12,.phase⟩,⟨13,.phase⟩,⟨14,.phase⟩,⟨15,.phase⟩,⟨16,.phase⟩,⟨17,.phase⟩,⟨18,.phase⟩,⟨19,.phase⟩,⟨20,.phase⟩],none⟩] true))) ((Code.region 39 #[
  ⟨some 186,.binOp .eql 3 (.tmp 42) (.const (.int .i64 14)) 3,4,"ref.go:106",#[],none⟩,
  ⟨some 185,.assign (.tmp 186),4,"ref.go:106",#[⟨0,.data⟩],none⟩] false).seq (Code.cond (Operand.tmp 185) ((Code.region 40 #[
  ⟨some 187,.load 28 (.tmp 12),28,"ref.go:107",#[],none⟩,
  ⟨some 188,.call ⟨.builtin .len,#[.tmp 187],#[28]⟩,3,"ref.go:107",#[⟨0,.data⟩],none⟩,
  ⟨some 189,.fieldAddr 59 (.tmp 15) 1,0,"ref.go:107",#[],none⟩,
  ⟨some 190,.load 3 (.tmp 189),3,"ref.go:107",#[⟨2,.data⟩],none⟩,
  ⟨some 191,.binOp .sub 3 (.tmp 188) (.tmp 190) 3,3,"ref.go:107",#[⟨1,.data⟩,⟨3,.data⟩],none⟩,
  ⟨some 18,.assign (.tmp 191),3,"ref.go:107",#[⟨4,.data⟩,⟨0,.phase⟩,⟨1,.phase⟩,⟨2,.phase⟩,⟨3,.phase⟩,⟨4,.phase⟩],none⟩] false).seq ((Code.region 41 #[
  ⟨some 192,.buildSlice 28 0 #[],28,"ref.go:108",#[],none⟩,
  ⟨some 193,.load 28 (.tmp 12),28,"ref.go:108",#[],none⟩,
  ⟨some 194,.move (.tmp 18),3,"ref.go:108",#[],none⟩,
  ⟨some 195,.slice 28 (.tmp 193) (some (.tmp 194)) none none,28,"ref.go:108",#[⟨1,.data⟩,⟨2,.data⟩],none⟩,
  ⟨some 196,.call ⟨.builtin .append,#[.tmp 192,.tmp 195],#[28,28]⟩,28,"ref.go:108",#[⟨0,.data⟩,⟨3,.data⟩],none⟩,
  ⟨some 197,.load 28 (.tmp 12),28,"ref.go:108",#[⟨11,.gcOnly .lateStores⟩],none⟩,
  ⟨some 198,.move (.tmp 18),3,"ref.go:108",#[⟨11,.gcOnly .lateStores⟩],none⟩,
  ⟨some 199,.binOp .sub 3 (.tmp 198) (.const (.int .i64 1)) 3,3,"ref.go:108",#[⟨6,.data⟩,⟨11,.gcOnly .lateStores⟩],none⟩,
  ⟨some 200,.indexAddr 28 (.tmp 197) (.tmp 199),0,"ref.go:108",#[⟨5,.data⟩,⟨7,.data⟩,⟨11,.gcOnly .lateStores⟩],none⟩,
  ⟨some 201,.load 27 (.tmp 200),27,"ref.go:108",#[⟨8,.data⟩,⟨11,.gcOnly .lateStores⟩],none⟩,
  ⟨some 20,.alloc 27,0,"ref.go:108",#[],none⟩,
  ⟨some 19,.assign (.tmp 196),28,"ref.go:108",#[⟨4,.data⟩,⟨4,.chain⟩,⟨0,.phase⟩,⟨1,.phase⟩,⟨2,.phase⟩,⟨3,.phase⟩,⟨4,.phase⟩,⟨5,.textOnly .lateStores⟩,⟨6,.textOnly .lateStores⟩,⟨7,.textOnly .lateStores⟩,⟨8,.textOnly .lateStores⟩,⟨9,.textOnly .lateStores⟩,⟨10,.phase⟩],none⟩,
  ⟨none,.store 27 (.tmp 20) (.tmp 201),0,"ref.go:108",#[⟨10,.data⟩,⟨9,.data⟩,⟨11,.chain⟩,⟨0,.phase⟩,⟨1,.phase⟩,⟨2,.phase⟩,⟨3,.phase⟩,⟨4,.phase⟩,⟨5,.phase⟩,⟨6,.phase⟩,⟨7,.phase⟩,⟨8,.phase⟩,⟨9,.phase⟩,⟨10,.phase⟩,⟨11,.phase⟩],none⟩] true).seq ((Code.region 42 #[
  ⟨some 202,.load 28 (.tmp 12),28,"ref.go:109",#[],none⟩,
  ⟨some 203,.move (.tmp 18),3,"ref.go:109",#[],none⟩,
  ⟨some 204,.binOp .sub 3 (.tmp 203) (.const (.int .i64 1)) 3,3,"ref.go:109",#[⟨1,.data⟩],none⟩,
  ⟨some 205,.slice 28 (.tmp 202) none (some (.tmp 204)) none,28,"ref.go:109",#[⟨0,.data⟩,⟨2,.data⟩],none⟩,
  ⟨none,.store 28 (.tmp 12) (.tmp 205),0,"ref.go:109",#[⟨3,.data⟩,⟨0,.phase⟩,⟨1,.phase⟩,⟨2,.phase⟩,⟨3,.phase⟩],none⟩] false).seq ((Code.region 43 #[
  ⟨some 206,.move (.tmp 0),69,"ref.go:110",#[],none⟩,
  ⟨some 207,.nilCheck (.tmp 206),0,"ref.go:110",#[⟨0,.data⟩],none⟩,
  ⟨some 208,.fieldAddr 113 (.tmp 207) 0,0,"ref.go:110",#[⟨1,.data⟩],none⟩,
  ⟨some 209,.fieldAddr 25 (.tmp 208) 1,0,"ref.go:110",#[⟨2,.data⟩],none⟩,
  ⟨some 210,.load 23 (.tmp 209),23,"ref.go:110",#[⟨3,.data⟩],none⟩,
  ⟨some 211,.load 27 (.tmp 20),27,"ref.go:110",#[],none⟩,
  ⟨some 212,.call ⟨.value (.func 43),#[.tmp 210,.tmp 211],#[23,27]⟩,3,"ref.go:110",#[⟨4,.data⟩,⟨5,.data⟩],none⟩,
  ⟨some 21,.assign (.tmp 212),3,"ref.go:110",#[⟨6,.data⟩,⟨6,.chain⟩,⟨0,.phase⟩,⟨1,.phase⟩,⟨2,.phase⟩,⟨3,.phase⟩,⟨4,.phase⟩,⟨5,.phase⟩,⟨6,.phase⟩],none⟩] true).seq ((Code.region 44 #[
  ⟨some 213,.move (.tmp 0),69,"ref.go:111",#[],none⟩,
  ⟨some 214,.move (.tmp 0),69,"ref.go:111",#[⟨22,.gcOnly .lateStores⟩],none⟩,
  ⟨some 215,.move (.tmp 0),69,"ref.go:111",#[],none⟩,
  ⟨some 216,.nilCheck (.tmp 215),0,"ref.go:111",#[⟨2,.data⟩],none⟩,
  ⟨some 217,.fieldAddr 113 (.tmp 216) 6,0,"ref.go:111",#[⟨3,.data⟩],none⟩,
  ⟨some 218,.load 47 (.tmp 217),47,"ref.go:111",#[⟨4,.data⟩],none⟩,
  ⟨some 219,.move (.tmp 1),3,"ref.go:111",#[],none⟩,
  ⟨some 220,.fieldAddr 55 (.tmp 7) 0,0,"ref.go:111",#[],none⟩,
  ⟨some 221,.load 9 (.tmp 220),9,"ref.go:111",#[⟨7,.data⟩],none⟩,
  ⟨some 222,.move (.tmp 14),3,"ref.go:111",#[],none⟩,
  ⟨some 223,.build 42 #[(0,.tmp 219),(1,.tmp 221),(2,.tmp 222)],42,"ref.go:111",#[⟨6,.data⟩,⟨8,.data⟩,⟨9,.data⟩],none⟩,
  ⟨some 224,.buildSlice 47 1 #[(0,.tmp 223)],47,"ref.go:111",#[⟨10,.data⟩],none⟩,
  ⟨some 225,.call ⟨.builtin .append,#[.tmp 218,.tmp 224],#[47,47]⟩,47,"ref.go:111",#[⟨5,.data⟩,⟨11,.data⟩],none⟩,
  ⟨some 226,.move (.tmp 0),69,"ref.go:111",#[],none⟩,
  ⟨some 227,.nilCheck (.tmp 226),0,"ref.go:111",#[⟨13,.data⟩],none⟩,
  ⟨some 228,.fieldAddr 113 (.tmp 227) 7,0,"ref.go:111",#[⟨14,.data⟩],none⟩,
  ⟨some 229,.load 48 (.tmp 228),48,"ref.go:111",#[⟨15,.data⟩],none⟩,
  ⟨some 230,.move (.tmp 21),3,"ref.go:111",#[],none⟩,
  ⟨some 231,.buildSlice 48 1 #[(0,.tmp 230)],48,"ref.go:111",#[⟨17,.data⟩],none⟩,
  ⟨some 232,.call ⟨.builtin .append,#[.tmp 229,.tmp 231],#[48,48]⟩,48,"ref.go:111",#[⟨16,.data⟩,⟨18,.data⟩,⟨12,.chain⟩],none⟩,
  ⟨some 233,.nilCheck (.tmp 213),0,"ref.go:111",#[⟨0,.data⟩,⟨0,.phase⟩,⟨1,.textOnly .lateStores⟩,⟨2,.phase⟩,⟨3,.phase⟩,⟨4,.phase⟩,⟨5,.phase⟩,⟨6,.phase⟩,⟨7,.phase⟩,⟨8,.phase⟩,⟨9,.phase⟩,⟨10,.phase⟩,⟨11,.phase⟩,⟨12,.phase⟩,⟨13,.textOnly .lateStores⟩,⟨14,.textOnly .lateStoresUnsure⟩,⟨15,.textOnly .lateStoresUnsure⟩,⟨16,.phase⟩,⟨17,.textOnly .lateStores⟩,⟨18,.textOnly .lateStoresUnsure⟩,⟨19,.phase⟩],none⟩,
  ⟨some 234,.fieldAddr 113 (.tmp 233) 6,0,"ref.go:111",#[⟨20,.data⟩,⟨0,.phase⟩,⟨1,.textOnly .lateStores⟩,⟨2,.phase⟩,⟨3,.phase⟩,⟨4,.phase⟩,⟨5,.phase⟩,⟨6,.phase⟩,⟨7,.phase⟩,⟨8,.phase⟩,⟨9,.phase⟩,⟨10,.phase⟩,⟨11,.phase⟩,⟨12,.phase⟩,⟨13,.textOnly .lateStores⟩,⟨14,.textOnly .lateStoresUnsure⟩,⟨15,.textOnly .lateStoresUnsure⟩,⟨16,.phase⟩,⟨17,.textOnly .lateStores⟩,⟨18,.textOnly .lateStoresUnsure⟩,⟨19,.phase⟩],none⟩,
  ⟨none,.store 47 (.tmp 234) (.tmp 225),0,"ref.go:111",#[⟨21,.data⟩,⟨12,.data⟩,⟨19,.chain⟩,⟨0,.phase⟩,⟨1,.textOnly .lateStores⟩,⟨2,.phase⟩,⟨3,.phase⟩,⟨4,.phase⟩,⟨5,.phase⟩,⟨6,.phase⟩,⟨7,.phase⟩,⟨8,.phase⟩,⟨9,.phase⟩,⟨10,.phase⟩,⟨11,.phase⟩,⟨12,.phase⟩,⟨13,.textOnly .lateStores⟩,⟨14,.textOnly .lateStoresUnsure⟩,⟨15,.textOnly .lateStoresUnsure⟩,⟨16,.phase⟩,⟨17,.textOnly .lateStores⟩,⟨18,.textOnly .lateStoresUnsure⟩,⟨19,.phase⟩],none⟩,
  ⟨some 235,.nilCheck (.tmp 214),0,"ref.go:111",#[⟨1,.data⟩,⟨0,.phase⟩,⟨1,.phase⟩,⟨2,.phase⟩,⟨3,.phase⟩,⟨4,.phase⟩,⟨5,.phase⟩,⟨6,.phase⟩,⟨7,.phase⟩,⟨8,.phase⟩,⟨9,.phase⟩,⟨10,.phase⟩,⟨11,.phase⟩,⟨12,.phase⟩,⟨13,.phase⟩,⟨14,.phase⟩,⟨15,.phase⟩,⟨16,.phase⟩,⟨17,.phase⟩,⟨18,.phase⟩,⟨19,.phase⟩,⟨20,.phase⟩,⟨21,.phase⟩,⟨22,.phase⟩],none⟩,
  ⟨some 236,.fieldAddr 113 (.tmp 235) 7,0,"ref.go:111",#[⟨23,.data⟩,⟨0,.phase⟩,⟨1,.phase⟩,⟨2,.phase⟩,⟨3,.phase⟩,⟨4,.phase⟩,⟨5,.phase⟩,⟨6,.phase⟩,⟨7,.phase⟩,⟨8,.phase⟩,⟨9,.phase⟩,⟨10,.phase⟩,⟨11,.phase⟩,⟨12,.phase⟩,⟨13,.phase⟩,⟨14,.phase⟩,⟨15,.phase⟩,⟨16,.phase⟩,⟨17,.phase⟩,⟨18,.phase⟩,⟨19,.phase⟩,⟨20,.phase⟩,⟨21,.phase⟩,⟨22,.phase⟩],none⟩,
  ⟨none,.store 48 (.tmp 236) (.tmp 232),0,"ref.go:111",#[⟨24,.data⟩,⟨19,.data⟩,⟨22,.chain⟩,⟨0,.phase⟩,⟨1,.phase⟩,⟨2,.phase⟩,⟨3,.phase⟩,⟨4,.phase⟩,⟨5,.phase⟩,⟨6,.phase⟩,⟨7,.phase⟩,⟨8,.phase⟩,⟨9,.phase⟩,⟨10,.phase⟩,⟨11,.phase⟩,⟨12,.phase⟩,⟨13,.phase⟩,⟨14,.phase⟩,⟨15,.phase⟩,⟨16,.phase⟩,⟨17,.phase⟩,⟨18,.phase⟩,⟨19,.phase⟩,⟨20,.phase⟩,⟨21,.phase⟩,⟨22,.phase⟩],none⟩] true).seq ((Code.region 45 #[
  ⟨some 238,.move (.tmp 0),69,"ref.go:112",#[],none⟩,
  ⟨some 239,.nilCheck (.tmp 238),0,"ref.go:112",#[⟨0,.data⟩],none⟩,
  ⟨some 240,.fieldAddr 113 (.tmp 239) 0,0,"ref.go:112",#[⟨1,.data⟩],none⟩,
  ⟨some 241,.load 25 (.tmp 240),25,"ref.go:112",#[⟨2,.data⟩],none⟩,
  ⟨some 242,.move (.tmp 21),3,"ref.go:112",#[],none⟩,
  ⟨some 243,.fieldAddr 59 (.tmp 15) 4,0,"ref.go:112",#[],none⟩,
  ⟨some 244,.load 9 (.tmp 243),9,"ref.go:112",#[⟨5,.data⟩],none⟩,
  ⟨some 245,.call ⟨.value (.func 9),#[.tmp 241,.tmp 242,.tmp 244],#[25,3,9]⟩,56,"ref.go:112",#[⟨3,.data⟩,⟨4,.data⟩,⟨6,.data⟩],none⟩,
  ⟨some 237,.move (.tmp 245),56,"ref.go:112",#[⟨7,.data⟩],none⟩,
  ⟨some 246,.extract (.tmp 237) 0,3,"ref.go:112",#[⟨8,.data⟩],none⟩,
  ⟨some 247,.extract (.tmp 237) 1,3,"ref.go:112",#[⟨8,.data⟩,⟨11,.gcOnly .lateStores⟩],none⟩,
  ⟨some 22,.assign (.tmp 246),3,"ref.go:112",#[⟨9,.data⟩,⟨7,.chain⟩,⟨0,.phase⟩,⟨1,.phase⟩,⟨2,.phase⟩,⟨3,.phase⟩,⟨4,.phase⟩,⟨5,.phase⟩,⟨6,.phase⟩,⟨7,.phase⟩,⟨8,.phase⟩,⟨9,.phase⟩,⟨10,.textOnly .lateStores⟩],none⟩,
  ⟨some 23,.assign (.tmp 247),3,"ref.go:112",#[⟨10,.data⟩,⟨11,.chain⟩,⟨0,.phase⟩,⟨1,.phase⟩,⟨2,.phase⟩,⟨3,.phase⟩,⟨4,.phase⟩,⟨5,.phase⟩,⟨6,.phase⟩,⟨7,.phase⟩,⟨8,.phase⟩,⟨9,.phase⟩,⟨10,.phase⟩,⟨11,.phase⟩],none⟩] true).seq (((Code.region 46 #[
  ⟨some 248,.move (.tmp 23),3,"ref.go:113",#[],none⟩,
  ⟨some 249,.binOp .lss 3 (.tmp 248) (.const (.int .i64 0)) 3,4,"ref.go:113",#[⟨0,.data⟩],none⟩] false).seq (Code.cond (Operand.tmp 249) ((Code.region 47 #[
  ⟨some 250,.move (.tmp 0),69,"ref.go:114",#[],none⟩,
  ⟨some 251,.nilCheck (.tmp 250),0,"ref.go:114",#[⟨0,.data⟩,⟨0,.phase⟩],none⟩,
  ⟨some 252,.fieldAddr 113 (.tmp 251) 5,0,"ref.go:114",#[⟨1,.data⟩,⟨0,.phase⟩],none⟩,
  ⟨none,.store 32 (.tmp 252) (.const (.int .i64 10)),0,"ref.go:114",#[⟨2,.data⟩,⟨0,.phase⟩],none⟩] false).seq (Code.exit 2)) Code.skip)).seq (Code.region 48 #[
  ⟨some 253,.load 28 (.tmp 12),28,"ref.go:117",#[],none⟩,
  ⟨some 254,.move (.tmp 0),69,"ref.go:117",#[],none⟩,
  ⟨some 255,.move (.tmp 22),3,"ref.go:117",#[],none⟩,
  ⟨some 256,.move (.tmp 23),3,"ref.go:117",#[],none⟩,
  ⟨some 257,.load 27 (.tmp 20),27,"ref.go:117",#[],none⟩,
  ⟨some 258,.move (.tmp 19),28,"ref.go:117",#[],none⟩,
  ⟨some 259,.call ⟨.value (.func 44),#[.tmp 254,.tmp 255,.tmp 256,.tmp 257,.tmp 258],#[69,3,3,27,28]⟩,27,"ref.go:117",#[⟨1,.data⟩,⟨2,.data⟩,⟨3,.data⟩,⟨4,.data⟩,⟨5,.data⟩],none⟩,
  ⟨some 260,.buildSlice 28 1 #[(0,.tmp 259)],28,"ref.go:117",#[⟨6,.data⟩],none⟩,
  ⟨some 261,.call ⟨.builtin .append,#[.tmp 253,.tmp 260],#[28,28]⟩,28,"ref.go:117",#[⟨0,.data⟩,⟨7,.data⟩,⟨6,.chain⟩],none⟩,
  ⟨none,.store 28 (.tmp 12) (.tmp 261),0,"ref.go:117",#[⟨8,.data⟩,⟨8,.chain⟩,⟨0,.phase⟩,⟨1,.phase⟩,⟨2,.phase⟩,⟨3,.phase⟩,⟨4,.phase⟩,⟨5,.phase⟩,⟨6,.phase⟩,⟨7,.phase⟩,⟨8,.phase⟩],none⟩] true)))))))) ((Code.region 49 #[
  ⟨some 263,.binOp .eql 3 (.tmp 42) (.const (.int .i64 15)) 3,4,"ref.go:118",#[],none⟩,
  ⟨some 262,.assign (.tmp 263),4,"ref.go:118",#[⟨0,.data⟩],none⟩] false).seq (Code.cond (Operand.tmp 262) (Code.region 50 #[
  ⟨some 264,.fieldAddr 59 (.tmp 15) 1,0,"ref.go:119",#[],none⟩,
  ⟨some 265,.load 3 (.tmp 264),3,"ref.go:119",#[⟨0,.data⟩],none⟩,
  ⟨some 16,.assign (.tmp 265),3,"ref.go:119",#[⟨1,.data⟩,⟨0,.phase⟩,⟨1,.phase⟩],none⟩] false) ((Code.region 51 #[
  ⟨some 267,.binOp .eql 3 (.tmp 42) (.const (.int .i64 16)) 3,4,"ref.go:120",#[],none⟩,
  ⟨some 266,.assign (.tmp 267),4,"ref.go:120",#[⟨0,.data⟩],none⟩] false).seq (Code.cond (Operand.tmp 266) ((Code.region 52 #[
  ⟨some 268,.move (.tmp 13),159,"ref.go:121",#[],none⟩,
  ⟨some 269,.call ⟨.value (.tmp 268),#[],#[]⟩,27,"ref.go:121",#[⟨0,.data⟩],none⟩,
  ⟨some 24,.alloc 27,0,"ref.go:121",#[],none⟩,
  ⟨none,.store 27 (.tmp 24) (.tmp 269),0,"ref.go:121",#[⟨2,.data⟩,⟨1,.data⟩,⟨1,.chain⟩,⟨0,.phase⟩,⟨1,.phase⟩,⟨2,.phase⟩],none⟩] false).seq ((Code.region 53 #[
  ⟨some 270,.fieldAddr 27 (.tmp 24) 0,0,"ref.go:122",#[],none⟩,
  ⟨some 271,.load 3 (.tmp 270),3,"ref.go:122",#[⟨0,.data⟩],none⟩,
  ⟨some 272,.binOp .eql 3 (.tmp 271) (.const (.int .i64 1)) 3,4,"ref.go:122",#[⟨1,.data⟩],none⟩] false).seq (Code.cond (Operand.tmp 272) (Code.region 54 #[
  ⟨some 273,.fieldAddr 59 (.tmp 15) 1,0,"ref.go:123",#[],none⟩,
  ⟨some 274,.load 3 (.tmp 273),3,"ref.go:123",#[⟨0,.data⟩],none⟩,
  ⟨some 16,.assign (.tmp 274),3,"ref.go:123",#[⟨1,.data⟩,⟨0,.phase⟩,⟨1,.phase⟩],none⟩] false) ((Code.region 55 #[
  ⟨some 275,.fieldAddr 27 (.tmp 24) 0,0,"ref.go:124",#[],none⟩,
  ⟨some 276,.load 3 (.tmp 275),3,"ref.go:124",#[⟨0,.data⟩],none⟩,
  ⟨some 277,.binOp .neq 3 (.tmp 276) (.const (.int .i64 2)) 3,4,"ref.go:124",#[⟨1,.data⟩],none⟩] false).seq (Code.cond (Operand.tmp 277) (Code.region 56 #[
  ⟨some 278,.move (.tmp 0),69,"ref.go:125",#[],none⟩,
  ⟨some 279,.nilCheck (.tmp 278),0,"ref.go:125",#[⟨0,.data⟩,⟨0,.phase⟩],none⟩,
  ⟨some 280,.fieldAddr 113 (.tmp 279) 5,0,"ref.go:125",#[⟨1,.data⟩,⟨0,.phase⟩],none⟩,
  ⟨none,.store 32 (.tmp 280) (.const (.int .i64 11)),0,"ref.go:125",#[⟨2,.data⟩,⟨0,.phase⟩],none⟩] false) Code.skip))))) ((Code.region 57 #[
  ⟨some 282,.binOp .eql 3 (.tmp 42) (.const (.int .i64 17)) 3,4,"ref.go:127",#[],none⟩,
  ⟨some 281,.assign (.tmp 282),4,"ref.go:127",#[⟨0,.data⟩],none⟩] false).seq (Code.cond (Operand.tmp 281) ((Code.region 58 #[
  ⟨some 283,.move (.tmp 13),159,"ref.go:128",#[],none⟩,
  ⟨some 284,.call ⟨.value (.tmp 283),#[],#[]⟩,27,"ref.go:128",#[⟨0,.data⟩],none⟩,
  ⟨none,.store 27 (.tmp 10) (.tmp 284),0,"ref.go:128",#[⟨1,.data⟩,⟨1,.chain⟩,⟨0,.phase⟩,⟨1,.phase⟩],none⟩] false).seq Code.ret) Code.skip)))))))))))))))))))))))))))))))))
section
variable {p:Rp} {d:Nat} {T T1:Nat->Nat} {w wr W:World} {mb K:Nat} {R:Mc RSt × QV × Int} {av kv:Value} {gk G':Nat} {m:Mc RSt} {f:Fr} {c:Int} {n1 n2 n3 k:Nat} {x:QI} {hv sv ov:Value} {sa:Option Addr} {sc:Nat}
structure SwC (p:Rp)(d:Nat)(T:Nat->Nat)(w:World)(mb K:Nat)(R:Mc RSt × QV × Int)(av kv:Value)(gk G':Nat)(c:Int)(n1 n2 n3:Nat)(T1:Nat->Nat)(m:Mc RSt)(f:Fr)(wr W:World)(k:Nat)(x:QI)(hv sv ov:Value)(sa:Option Addr)(sc:Nat):Prop where
 X:Rx p
 en:xrD p d
 R:BdR p d T w mb K R av kv gk (.int .i64 (k:Int)) T1 m f 0 wr
 g:gk=G'+1
 nx:NxOk f k x
 mac:RMac p T1 wr mb m (20-(d:Int)) 0 hv sv ov
 fr:RF T1 K wr w.heap.size f av kv (.slice sa f.stack.length sc)
 scap:f.stack.length<=sc/\sc<=9223372036854775807
 len:xj9 c n1 n2 n3 f
 bel:Below wr.heap.size wr W
 inb:InB W wr.heap.size x
 av':∃ a cap,av=.slice a n1 cap/\cap<=9223372036854775807
 t40:n2<=40
 min:MIn p.E m/\Few m/\FOk p.X.cz m.heap.length f/\PlOk f
theorem SwC.pre {p:Rp}{d:Nat}{T:Nat->Nat}{w:World}{mb K:Nat}{R:Mc RSt × QV × Int}{av kv:Value}{gk G':Nat}{c:Int}{n1 n2 n3:Nat}{T1:Nat->Nat}{m:Mc RSt}{f:Fr}{wr W:World}{k:Nat}{x:QI}{hv sv ov:Value}{sa:Option Addr}{sc:Nat}(H:SwC p d T w mb K R av kv gk G' c n1 n2 n3 T1 m f wr W k x hv sv ov sa sc):Rx p/\Hid (xrD p d)/\Hid (BdR p d T w mb K R av kv gk (.int .i64 (k:Int)) T1 m f 0 wr)/\Hid (gk=G'+1)/\Hid (NxOk f k x)/\Hid (RMac p T1 wr mb m (20-(d:Int)) 0 hv sv ov)/\Hid (RF T1 K wr w.heap.size f av kv (.slice sa f.stack.length sc))/\Hid (xj9 c n1 n2 n3 f)/\Hid (Below wr.heap.size wr W)/\Hid (MIn p.E m/\Few m/\FOk p.X.cz m.heap.length f/\PlOk f)/\RMac p T1 W mb m (20-(d:Int)) 0 hv sv ov/\RF T1 K W w.heap.size f av kv (.slice sa f.stack.length sc)/\f.stack.length<=sc/\sc<=9223372036854775807/\w.heap.size+4<wr.heap.size/\wr.heap.size<=W.heap.size/\InB W wr.heap.size x/\(∃ a cap,av=.slice a n1 cap/\cap<=9223372036854775807)/\n2<=40:=
 ⟨H.X,hid H.en,hid H.R,hid H.g,hid H.nx,hid H.mac,hid H.fr,hid H.len,hid H.bel,hid H.min,H.mac.later H.bel,H.fr.later H.bel,H.scap.1,H.scap.2,xal H.fr.sb,H.bel.size,H.inb,H.av',H.t40⟩
def xrE (p:Rp)(d:Nat)(T:Nat->Nat)(w:World)(mb K:Nat)(R:Mc RSt × QV × Int)(av kv:Value)(G':Nat)(c:Int)(n1 n2 n3:Nat)(T1:Nat->Nat)(m:Mc RSt)(f:Fr)(wr:World)(k:Nat)(x:QI)(tg:Int)(w':World):Prop:=
 (tg=(k:Int)+1/\BdX p d T w mb K R av kv c n1 n2 n3 G' (.int .i64 ((k:Int)+1)) w')\/
 (tg=x.a/\x.op≠17/\∃ f1 T2 hv sv ov st,Ext T1 T2 wr/\Kp (All K) T1 wr w'/\RMac p T2 w' mb m (20-(d:Int)) 0 hv sv ov/\RF T2 K w' w.heap.size f1 av kv st/\xj9 c n1 n2 n3 f1/\xaj (xa4 p.E d) p.E d m { f with pc:=f.pc+1 } f.pc x=xaV m f1 k x.a)
end
def Br (n:Int):Prop:=
 ∀ {p:Rp} {d:Nat} {T T1:Nat->Nat} {w wr W:World} {mb K:Nat} {R:Mc RSt × QV × Int} {av kv:Value} {gk G':Nat} {m:Mc RSt} {f:Fr} {c:Int} {n1 n2 n3 k:Nat} {x:QI} {hv sv ov:Value} {sa:Option Addr} {sc:Nat} (H:SwC p d T w mb K R av kv gk G' c n1 n2 n3 T1 m f wr W k x hv sv ov sa sc) (hop:x.op=n)
  {u0 u1 u2 u3 u4 u5 u6 u7 u8 u9 ua ub uc ud ue uf ug uh ui uj uk ul um un uo up uq ur us ut uu uv uw ux uy uz ua0 ua1 ua2 ua3 ua4 ua5 ua6 ua7 ua8 ua9
  uaa uab uac uad uae uaf uag uah uai uaj uak ual uam uan uao uap uaq uar uas uat uau uav uaw uax uay uaz ub0 ub1 ub2 ub3 ub4 ub5 ub6 ub7 ub8 ub9 uba ubb ubc ubd ube ubf ubg ubh
  ubi ubj ubk ubl ubm ubn ubo ubp ubq ubr ubs ubt ubu ubv ubw ubx uby ubz uc0 uc1 uc2 uc3 uc4 uc5 uc6 uc7 uc8 uc9 uca ucb ucc ucd uce ucf ucg uch
  uci ucj uck ucl ucm ucn uco ucp ucq ucr ucs uct ucu ucv ucw ucx ucy ucz ud0 ud1 ud2 ud3 ud4 ud5 ud6 ud7 ud8 ud9 uda udb udc udd ude udf udg udh
  udi udj udk udl udm udn udo udp udq udr uds udt udu udv udw udx udy udz ue0 ue1 ue2 ue3 ue4 ue5 ue6 ue7 ue8 ue9 uea ueb uec ued uee uef ueg ueh
  uei uej uek uel uem uen ueo uep ueq uer ues uet ueu uev uew uex uey uez uf0 uf1 uf2 uf3 uf4 uf5 uf6 uf7 uf8 uf9 ufa ufb ufc ufd ufe uff ufg ufh
  ufi ufj ufk ufl ufm ufn ufo ufp ufq ufr ufs uft ufu ufv ufw ufx ufy ufz ug0 ug1 ug2 ug3 ug4 ug5 ug6 ug7 ug8 ug9 uga ugb ugc ugd uge ugf ugg ugh
  ugi ugj ugk ugl ugm ugn ugo ugp ugq ugr ugs ugt ugu ugv ugw ugx ugy ugz uh0 uh1 uh2 uh3:Value}
  {KT K2 K3:Act->World->Prop}
  (hN:∀ (u5 u6 u7 u8 u9 ua ub uc uu uv uw ux uy uz ua0 ua1 ua2 ua3 ua4 ua5 ua6 ua7 ua8 ua9 uaa uab uac uad uae uaf uag uah uai uaj uak ual uam uan uao uap uaq uar uas uat uau
  uav uaw uax uay uaz ub0 ub1 ub2 ub3 ub4 ub5 ub6 ub7 ub8 ub9 uba ubb ubc ubd ube ubf ubg ubh ubi ubj ubk ubl ubm ubn ubo ubp ubq ubr ubs ubt ubu ubv ubw ubx uby
  ubz uc0 uc1 uc2 uc3 uc4 uc5 uc6 uc7 uc8 uc9 uca ucb ucc ucd uce ucf ucg uch uci ucj uck ucl ucm ucn uco ucp ucq ucr ucs uct ucu ucv ucw ucx ucy
  ucz ud0 ud1 ud2 ud3 ud4 ud5 ud6 ud7 ud8 ud9 uda udb udc udd ude udf udg udh udi udj udk udl udm udn udo udp udq udr uds udt udu udv udw udx udy
  udz ue0 ue1 ue2 ue3 ue4 ue5 ue6 ue7 ue8 ue9 uea ueb uec ued uee uef ueg ueh uei uej uek uel uem uen ueo uep ueq uer ues uet ueu uev uew uex uey
  uez uf0 uf1 uf2 uf3 uf4 uf5 uf6 uf7 uf8 uf9 ufa ufb ufc ufd ufe uff ufg ufh ufi ufj ufk ufl ufm ufn ufo ufp ufq ufr ufs uft ufu ufv ufw ufx ufy
  ufz ug0 ug1 ug2 ug3 ug4 ug5 ug6 ug7 ug8 ug9 uga ugb ugc ugd uge ugf ugg ugh ugi ugj:Value) (tg:Int) (w':World),xrE p d T w mb K R av kv G' c n1 n2 n3 T1 m f wr k x tg w'->KT (Act.mk #[.pointer (some ⟨mb,0,none⟩),.int .i64 c,u0,u1,av,u2,u3,.pointer (some ⟨w.heap.size,0,none⟩),.pointer (some ⟨w.heap.size+1,0,none⟩),u4,.pointer (some
  ⟨w.heap.size+2,0,none⟩),.slice (some ⟨w.heap.size+3,0,none⟩) n2 n2,.pointer (some ⟨w.heap.size+4,0,none⟩),.func (.func 86) #[] #[.pointer (some ⟨w.heap.size+4,0,
  none⟩)],.int .i64 (k:Int),.pointer (some ⟨wr.heap.size,0,none⟩),.int .i64 tg,u5,u6,u7,u8,u9,ua,ub,uc,ud,ue,uf,ug,uh,ui,uj,uk,ul,um,un,
  uo,up,uq,ur,us,ut,.int .i64 n,uu,uv,uw,ux,uy,uz,ua0,ua1,ua2,ua3,ua4,ua5,ua6,ua7,ua8,ua9,uaa,uab,uac,uad,uae,uaf,uag,uah,uai,uaj,uak,
  ual,uam,uan,uao,uap,uaq,uar,uas,uat,uau,uav,uaw,uax,uay,uaz,ub0,ub1,ub2,ub3,ub4,ub5,ub6,ub7,ub8,ub9,uba,ubb,ubc,ubd,ube,ubf,ubg,ubh,ubi,ubj,
  ubk,ubl,ubm,ubn,ubo,ubp,ubq,ubr,ubs,ubt,ubu,ubv,ubw,ubx,uby,ubz,uc0,uc1,uc2,uc3,uc4,uc5,uc6,uc7,uc8,uc9,uca,ucb,ucc,ucd,
  uce,ucf,ucg,uch,uci,ucj,uck,ucl,ucm,ucn,uco,ucp,ucq,ucr,ucs,uct,ucu,ucv,ucw,ucx,ucy,ucz,ud0,ud1,ud2,ud3,ud4,ud5,ud6,ud7,
  ud8,ud9,uda,udb,udc,udd,ude,udf,udg,udh,udi,udj,udk,udl,udm,udn,udo,udp,udq,udr,uds,udt,udu,udv,udw,udx,udy,udz,ue0,ue1,
  ue2,ue3,ue4,ue5,ue6,ue7,ue8,ue9,uea,ueb,uec,ued,uee,uef,ueg,ueh,uei,uej,uek,uel,uem,uen,ueo,uep,ueq,uer,ues,uet,ueu,uev,
  uew,uex,uey,uez,uf0,uf1,uf2,uf3,uf4,uf5,uf6,uf7,uf8,uf9,ufa,ufb,ufc,ufd,ufe,uff,ufg,ufh,ufi,ufj,ufk,ufl,ufm,ufn,ufo,ufp,
  ufq,ufr,ufs,uft,ufu,ufv,ufw,ufx,ufy,ufz,ug0,ug1,ug2,ug3,ug4,ug5,ug6,ug7,ug8,ug9,uga,ugb,ugc,ugd,uge,ugf,ugg,ugh,ugi,ugj,
  ugk,ugl,ugm,ugn,ugo,ugp,ugq,ugr,ugs,ugt,ugu,ugv,ugw,ugx,ugy,ugz,uh0,uh1,uh2,uh3] []) w')
  {K9:Act->World->Prop} (hK9:∀ a w',Code.wp Try.prog sw9 (Exit.inBlock 2 (Exit.then KT (Exit.inBlock 1 (Exit.then K2 (Exit.inBlock 0 (Exit.then K3 (bodyPost Try.prog Try.f65 fun e w'=>xcT p T w mb (20-(d:Int)) K R e w'))))))) a w'->K9 a w'),
 Code.wp Try.prog xh4 (Exit.then K9 (Exit.inBlock 2 (Exit.then KT (Exit.inBlock 1 (Exit.then K2 (Exit.inBlock 0 (Exit.then K3 (bodyPost Try.prog Try.f65 fun e w'=>xcT p T w mb (20-(d:Int)) K R e w')))))))) (Act.mk #[.pointer (some ⟨mb,0,none⟩),.int .i64 c,u0,u1,av,u2,u3,.pointer (some ⟨w.heap.size,0,none⟩),.pointer (some ⟨w.heap.size+1,0,none⟩),u4,.pointer (some
  ⟨w.heap.size+2,0,none⟩),.slice (some ⟨w.heap.size+3,0,none⟩) n2 n2,.pointer (some ⟨w.heap.size+4,0,none⟩),.func (.func 86) #[] #[.pointer (some ⟨w.heap.size+4,0,
  none⟩)],.int .i64 (k:Int),.pointer (some ⟨wr.heap.size,0,none⟩),.int .i64 ((k:Int)+1),u5,u6,u7,u8,u9,ua,ub,uc,ud,ue,uf,ug,uh,ui,uj,uk,
  ul,um,un,uo,up,uq,ur,us,ut,.int .i64 n,uu,uv,uw,ux,uy,uz,ua0,ua1,ua2,ua3,ua4,ua5,ua6,ua7,ua8,ua9,uaa,uab,uac,uad,uae,uaf,uag,uah,
  uai,uaj,uak,ual,uam,uan,uao,uap,uaq,uar,uas,uat,uau,uav,uaw,uax,uay,uaz,ub0,ub1,ub2,ub3,ub4,ub5,ub6,ub7,ub8,ub9,uba,ubb,ubc,ubd,ube,ubf,ubg,
  ubh,ubi,ubj,ubk,ubl,ubm,ubn,ubo,ubp,ubq,ubr,ubs,ubt,ubu,ubv,ubw,ubx,uby,ubz,uc0,uc1,uc2,uc3,uc4,uc5,uc6,uc7,uc8,uc9,uca,
  ucb,ucc,ucd,uce,ucf,ucg,uch,uci,ucj,uck,ucl,ucm,ucn,uco,ucp,ucq,ucr,ucs,uct,ucu,ucv,ucw,ucx,ucy,ucz,ud0,ud1,ud2,ud3,ud4,
  ud5,ud6,ud7,ud8,ud9,uda,udb,udc,udd,ude,udf,udg,udh,udi,udj,udk,udl,udm,udn,udo,udp,udq,udr,uds,udt,udu,udv,udw,udx,udy,
  udz,ue0,ue1,ue2,ue3,ue4,ue5,ue6,ue7,ue8,ue9,uea,ueb,uec,ued,uee,uef,ueg,ueh,uei,uej,uek,uel,uem,uen,ueo,uep,ueq,uer,ues,
  uet,ueu,uev,uew,uex,uey,uez,uf0,uf1,uf2,uf3,uf4,uf5,uf6,uf7,uf8,uf9,ufa,ufb,ufc,ufd,ufe,uff,ufg,ufh,ufi,ufj,ufk,ufl,ufm,
  ufn,ufo,ufp,ufq,ufr,ufs,uft,ufu,ufv,ufw,ufx,ufy,ufz,ug0,ug1,ug2,ug3,ug4,ug5,ug6,ug7,ug8,ug9,uga,ugb,ugc,ugd,uge,ugf,ugg,
  ugh,ugi,ugj,ugk,ugl,ugm,ugn,ugo,ugp,ugq,ugr,ugs,ugt,ugu,ugv,ugw,ugx,ugy,ugz,uh0,uh1,uh2,uh3] []) W
set_option maxRecDepth 100000
theorem br1:Br 1:=by
 intro p d T T1 w wr W mb K R av kv gk G' m f c n1 n2 n3 k x hv sv ov sa sc H hop
 intros
 rename_i hN K9 hK9;obtain⟨hX,HEn,HR,HG,HX,HMa,HF,HL,HB1,HI,hM1,hF1,hsc1,hsc2,hBl,hWl,hxb,⟨aa,ca,rfl,hca⟩,ht40⟩:=H.pre;have HOP:=hid hop;clear hop;unfold xh4;unfold sw9 at hK9
 have HPU:Hid (xao m.heap { f with pc:=f.pc+1 } x=some f.self):=by
  show _=_
  have hop:x.op=1:=HOP.out;unfold xao
  simp[hop]
 have hst0:=hF1.st;have x1:=hxb.x1;have v0:=hF1.v0;have v1:=hF1.v1;have HSt:=hid hF1.stack;have hfw:=HX.out.few
 go_wp2_with (at_builtin;refine xbf rfl (.tmp 45) (.tmp 47) 28 27 _ 2 16 rfl Try.underlying28 xcg rfl (by omega) 0 f.stack.length (.slice sa f.stack.length sc) (xam f.stack) rfl (HSt.out.alloc _) W.heap.size rfl [.int .i64 f.self.k,.int .i64 f.self.n] rfl (qzJ _ _) (by intro u hu;simp only[List.mem_cons,List.not_mem_nil,or_false] at hu;rcases hu with h | h<;>(subst h;rfl)) (by unfold maxLen;omega) (by omega) (by omega) ?_;intro a' cap' w' r1 r2 r3 r4;have hbU:=xaf HB1.out (xak W (.cells #[.int .i64 f.self.k,.int .i64 f.self.n] 27));obtain⟨d0,df⟩:=xb8 HF.out hbU r4;have R1:=hid r1;have R2:=hid r2;have R3:=hid r3;have R4:=hid r4;have HBU:=hid hbU;clear r1 r2 r3 r4 hbU)
 exact Or.inl ⟨rfl,xcW hX HR.out HG.out HX.out HPU.out HMa.out HF.out HL.out HBU.out R1.out R2.out R3.out R4.out⟩
theorem br2:Br 2:=by
 intro p d T T1 w wr W mb K R av kv gk G' m f c n1 n2 n3 k x hv sv ov sa sc H hop
 intros
 rename_i hN K9 hK9;obtain⟨hX,HEn,HR,HG,HX,HMa,HF,HL,HB1,HI,hM1,hF1,hsc1,hsc2,hBl,hWl,hxb,⟨aa,ca,rfl,hca⟩,ht40⟩:=H.pre;have HOP:=hid hop;clear hop;unfold xh4;unfold sw9 at hK9;have hst0:=hF1.st;have x1:=hxb.x1;have hfw:=HX.out.few;obtain⟨ha0,ha1⟩:=HX.out.arg HOP.out;obtain⟨j,hj⟩:∃ j:Nat,x.a=(j:Int):=⟨x.a.toNat,by omega⟩
 have hl1:=HL.out.2.1;have hjl:j<f.args.length:=by omega
 have hy:f.args[j]?=some f.args[j]:=by simp[hjl]
 have HPU:Hid (xao m.heap { f with pc:=f.pc+1 } x=some f.args[j]):=by
  show _=_
  have hop:x.op=2:=HOP.out;unfold xao xaM
  simp[hop,hj,hjl]
  omega
 generalize f.args[j]=y at *;obtain⟨aa',ca',e',-,-,-,hrow⟩:=hF1.args;simp only[Value.slice.injEq] at e';obtain⟨rfl,-,-⟩:=e';obtain⟨ba,oa,rfl,-,y0,y1⟩:=hrow j y hy;simp only[Nat.add_zero] at y0;have hj1:(j:Int)<(n1:Int):=by omega
 have hj0:(0:Int)<=(j:Int):=by omega
 rw[hj] at x1;clear hrow hy ha0 ha1 hj;have hst0a:=qzA (xak W (.cells #[.int .i64 y.k,.int .i64 y.n] 27)) hst0;have hst:ownsAt (W.alloc (.cells #[.int .i64 y.k,.int .i64 y.n] 27)).drew 0 27 2 (.slice sa f.stack.length sc) f.stack.length (xam f.stack):=(hF1.stack.alloc _).keep fun g hg=>rfl
 obtain⟨v',w',hrun,r1,r2,r3,r4⟩:=xaL (w:=(W.alloc (.cells #[.int .i64 y.k,.int .i64 y.n] 27)).drew) 28 28 27 _ 2 16 Try.underlying28 xcg rfl (by omega) 0 f.stack.length (.slice sa f.stack.length sc) (xam f.stack) hst W.heap.size [.int .i64 y.k,.int .i64 y.n] rfl (qzJ W _) (by intro u hu;simp only[List.mem_cons,List.not_mem_nil,or_false] at hu;rcases hu with h | h<;>(subst h;rfl)) (by unfold maxLen;omega) (by omega) (by omega)
 obtain⟨a',cap',rfl,-⟩:=r1.form;have hbU:Below wr.heap.size wr (W.alloc (.cells #[.int .i64 y.k,.int .i64 y.n] 27)).drew:=xaf HB1.out (xak _ _).drew;obtain⟨d0,df⟩:=xb8 HF.out hbU r4;have R1:=hid r1;have R2:=hid r2;have R3:=hid r3;have R4:=hid r4;have HBU:=hid hbU;clear r1 r2 r3 r4 hbU hst hM1 hF1
 go_upto_region 12 with (fail)
 go_region_law (refine xaw rfl (.tmp 51) (.tmp 57) 28 rfl (.slice sa f.stack.length sc) (.slice (some ⟨W.heap.size,0,none⟩) 1 1) (.slice a' (f.stack.length+1) cap') (by simp[Act.eval,Act.put]) (by simp[Act.eval,Act.put]) hrun ?_)
 all_goals (
  go_wp2
  exact Or.inl ⟨rfl,xcW hX HR.out HG.out HX.out HPU.out HMa.out HF.out HL.out HBU.out R1.out R2.out R3.out R4.out⟩)
theorem br3:Br 3:=by
 intro p d T T1 w wr W mb K R av kv gk G' m f c n1 n2 n3 k x hv sv ov sa sc H hop
 intros
 rename_i hN K9 hK9;obtain⟨hX,HEn,HR,HG,HX,HMa,HF,HL,HB1,HI,hM1,hF1,hsc1,hsc2,hBl,hWl,hxb,⟨aa,ca,rfl,hca⟩,ht40⟩:=H.pre;have HOP:=hid hop;clear hop;unfold xh4;unfold sw9 at hK9;have hst0:=hF1.st;have x1:=hxb.x1;have hfw:=HX.out.few;obtain⟨ha0,ha1⟩:=HX.out.temp (Or.inl HOP.out);obtain⟨j,hj⟩:∃ j:Nat,x.a=(j:Int):=⟨x.a.toNat,by omega⟩
 have hl1:=HL.out.2.2.1;have hjl:j<f.temps.length:=by omega
 have hy:f.temps[j]?=some f.temps[j]:=by simp[hjl]
 have HPU:Hid (xao m.heap { f with pc:=f.pc+1 } x=some f.temps[j]):=by
  show _=_
  have hop:x.op=3:=HOP.out;unfold xao xaM
  simp[hop,hj,hjl]
  omega
 generalize f.temps[j]=y at *;obtain⟨y0,y1⟩:=xfz hF1.tm hy;have hj1:(j:Int)<(n2:Int):=by omega
 have hj0:(0:Int)<=(j:Int):=by omega
 rw[hj] at x1;clear hy ha0 ha1 hj;have hst0a:=qzA (xak W (.cells #[.int .i64 y.k,.int .i64 y.n] 27)) hst0;have hst:ownsAt (W.alloc (.cells #[.int .i64 y.k,.int .i64 y.n] 27)).drew 0 27 2 (.slice sa f.stack.length sc) f.stack.length (xam f.stack):=(hF1.stack.alloc _).keep fun g hg=>rfl
 obtain⟨v',w',hrun,r1,r2,r3,r4⟩:=xaL (w:=(W.alloc (.cells #[.int .i64 y.k,.int .i64 y.n] 27)).drew) 28 28 27 _ 2 16 Try.underlying28 xcg rfl (by omega) 0 f.stack.length (.slice sa f.stack.length sc) (xam f.stack) hst W.heap.size [.int .i64 y.k,.int .i64 y.n] rfl (qzJ W _) (by intro u hu;simp only[List.mem_cons,List.not_mem_nil,or_false] at hu;rcases hu with h | h<;>(subst h;rfl)) (by unfold maxLen;omega) (by omega) (by omega)
 obtain⟨a',cap',rfl,-⟩:=r1.form;have hbU:Below wr.heap.size wr (W.alloc (.cells #[.int .i64 y.k,.int .i64 y.n] 27)).drew:=xaf HB1.out (xak _ _).drew;obtain⟨d0,df⟩:=xb8 HF.out hbU r4;have R1:=hid r1;have R2:=hid r2;have R3:=hid r3;have R4:=hid r4;have HBU:=hid hbU;clear r1 r2 r3 r4 hbU hst hM1 hF1
 go_upto_region 14 with (fail)
 go_region_law (refine xaw rfl (.tmp 61) (.tmp 67) 28 rfl (.slice sa f.stack.length sc) (.slice (some ⟨W.heap.size,0,none⟩) 1 1) (.slice a' (f.stack.length+1) cap') (by simp[Act.eval,Act.put]) (by simp[Act.eval,Act.put]) hrun ?_)
 all_goals (
  go_wp2
  exact Or.inl ⟨rfl,xcW hX HR.out HG.out HX.out HPU.out HMa.out HF.out HL.out HBU.out R1.out R2.out R3.out R4.out⟩)
set_option maxRecDepth 8000
section
variable {p:Rp} {d:Nat} {T T1 T2:Nat->Nat} {w wr w2:World} {mb K:Nat} {R:Mc RSt × QV × Int} {av kv:Value} {gk:Nat} {at' at2:Value} {m:Mc RSt} {f:Fr}
variable {c:Int} {n1 n2 n3 G' k:Nat} {x:QI} {hv sv ov st st':Value} {U w':World}
theorem xqf (hX:Rx p)(hR:BdR p d T w mb K R av kv gk at' T1 m f 0 wr)(hg:gk=G'+1)(hx:NxOk f k x)(hop:x.op=10)(hM:RMac p T1 wr mb m (20-(d:Int)) 0 hv sv ov)(hL:xj9 c n1 n2 n3 f)(hn:0<f.stack.length){W:World}(hW:Below wr.heap.size wr W){W2:World}(hF:RF T1 K W2 w.heap.size f.pop av kv st)(hK:Kp (fun t=>t=K\/t=K+2) T1 W W2)(hU:Below W2.heap.size W2 U)
  (r1:ownsAt w' 0 27 2 st' (f.pop.stack.length+2) (xam f.pop.stack++[.int .i64 f.top.k,.int .i64 f.top.n,.int .i64 f.top.k,.int .i64 f.top.n])) (r2:st'.ownBlock=st.ownBlock\/∃ g,st'.ownBlock=some g/\U.heap.size<=g) (r3:Below 0 U w') (r4:∀ b,b<U.heap.size->some b≠st.ownBlock->w'.heap[b]?=U.heap[b]?) :
  BdX p d T w mb K R av kv c n1 n2 n3 G' (.int .i64 ((k:Int)+1)) (w'.setCell ⟨w.heap.size+4,0,none⟩ st'):=by
 have hp:=hF.pos;have hfew:=hx.few;have hpl:f.pop.stack.length+1=f.stack.length:=by unfold Fr.pop;simp;omega
 obtain⟨⟨T2,e1,e2⟩,e3⟩:=hF.pushed (vs:=[f.top,f.top]) hU (by simp;omega) (by simpa [xam] using r1) r2 r3 r4
 have hstk:f.pop.stack++[f.top,f.top]=f.stack++[f.top]:=by
  have:f.stack=f.pop.stack++[f.top]:=by
   unfold Fr.pop Fr.top xaQ xaM;simp only;rw[if_neg (by omega)]
   have hne:f.stack≠[]:=by intro h;rw[h] at hn;simp at hn
   have hl:((f.stack.length:Int)-1-0).toNat=f.stack.length-1:=by omega
   rw[hl,List.getElem?_eq_getElem (by omega)]
   simp only[Option.getD_some];rw[← List.getLast_eq_getElem hne]
   exact (List.dropLast_concat_getLast hne).symm
  conv=>rhs;rw[this]
  simp
 have hr:xaj (xa4 p.E d) p.E d m { f with pc:=f.pc+1 } f.pc x=(m,({ f with pc:=f.pc+1 }:Fr).push f.top,0):=by
  rw[xbX _ _ (by omega)];unfold xcG;rw[if_neg (by omega),if_pos hop];rfl
 have kW:Kp (fun t=>t=K\/t=K+2) T1 wr W2:=(Kp.of_below hW).trans (.refl _ _) hK
 have kk:Kp (fun t=>t=K\/t=K+2) T1 wr (w'.setCell ⟨w.heap.size+4,0,none⟩ st'):=kW.trans (.refl _ _) e3
 have eE:Ext T1 T2 wr:=fun b hb=>e1 b (qzE hb kW.size)
 have hf2:RF T2 K (w'.setCell ⟨w.heap.size+4,0,none⟩ st') w.heap.size { f with stack:=f.stack++[f.top] } av kv st':=by rw[← hstk];exact e2
 exact xcz hX hR hg hx (by omega) hr eE (xd0 kk fun t ht=>by omega) (hM.keep eE kk (by omega) (by omega) (by omega) (by omega)) (fun _=>⟨_,hf2.at _⟩) (fun _=>by show f.pc+1=_;rw[hx.pc]) (fun _=>hL)
theorem xkN (hx:NxOk f k x)(h:xaS x k=⟨1,-1,[(k:Int)+1]⟩):0<f.stack.length:=by
 have:=hx.need;rw[h] at this;simp only[] at this
 omega
theorem RF.t4W (h:RF T1 K wr w.heap.size f av kv st)(hb:Below wr.heap.size wr U):RF (xaF T1 wr 4) K U w.heap.size f av kv st:=h.keep (S:=fun _=>False) (xaq T1 wr 4) (.of_below hb) id id id id id
theorem RMac.t4W {err:Int}(h:RMac p T1 wr mb m (20-(d:Int)) err hv sv ov)(hb:Below wr.heap.size wr U):RMac p (xaF T1 wr 4) U mb m (20-(d:Int)) err hv sv ov:=h.keep (S:=fun _=>False) (xaq T1 wr 4) (.of_below hb) id id id id
theorem kp4 {S:Nat->Prop}{W W2:World}(hb:Below wr.heap.size wr W)(k:Kp S (xaF T1 wr 4) W W2):Kp S T1 wr W2:=by
 refine (Kp.of_below hb).trans (T':=xaF T1 wr 4) (xaq T1 wr 4) k
theorem xqB (hX:Rx p)(hR:BdR p d T w mb K R av kv gk at' T1 m f 0 wr)(hg:gk=G'+1)(hx:NxOk f k x)(hop:x.op=11){j:Nat}(hj:x.a=(j:Int))(hM:RMac p T1 wr mb m (20-(d:Int)) 0 hv sv ov)(hL:xj9 c n1 n2 n3 f){W W2:World}(hW:Below wr.heap.size wr W)(hF:RF (xaF T1 wr 4) K W2 w.heap.size f.pop av kv st)(hK:Kp (fun t=>t=K\/t=K+2) (xaF T1 wr 4) W W2) :
  BdX p d T w mb K R av kv c n1 n2 n3 G' (.int .i64 ((k:Int)+1)) ((W2.setCell ⟨w.heap.size+3,j*2,none⟩ (.int .i64 f.top.k)).setCell ⟨w.heap.size+3,j*2+1,none⟩ (.int .i64 f.top.n)):=by
 have hp:=hF.pos;obtain⟨e1,e2⟩:=hF.temped j f.top
 have hr:xaj (xa4 p.E d) p.E d m { f with pc:=f.pc+1 } f.pc x=(m,{ ({ f with pc:=f.pc+1 }:Fr).pop with temps:=f.temps.set j f.top },0):=by
  rw[xbX _ _ (by omega)];unfold xcG;rw[if_neg (by omega),if_neg (by omega),if_pos hop]
  unfold xaW;rw[if_neg (by omega),hj];simp;rfl
 have k1:=(hK.mono (S':=fun t=>t=K\/t=K+1\/t=K+2) fun t h=>by omega).trans (.refl _ _) (e2.mono (S':=fun t=>t=K\/t=K+1\/t=K+2) fun t h=>by omega)
 have k2:=kp4 hW k1
 exact xcz hX hR hg hx (by omega) hr (xaq T1 wr 4) (xd0 k2 fun t ht=>by omega) (hM.keep (xaq T1 wr 4) k2 (by omega) (by omega) (by omega) (by omega)) (fun _=>⟨_,e1.at _⟩) (fun _=>by show f.pc+1=_;rw[hx.pc]) (fun _=>⟨hL.1,hL.2.1,by show (f.temps.set j f.top).length=_;rw[List.length_set];exact hL.2.2.1,hL.2.2.2⟩)
theorem xpz (hX:Rx p)(hR:BdR p d T w mb K R av kv gk at' T1 m f 0 wr)(hg:gk=G'+1)(hx:NxOk f k x)(hop:x.op=12){j:Nat}(hj:x.a=(j:Int))(hL:xj9 c n1 n2 n3 f){W W2 W3:World}(hW:Below wr.heap.size wr W)(hF:RF (xaF T1 wr 4) K W2 w.heap.size f.pop av kv st)(hK:Kp (fun t=>t=K\/t=K+2) (xaF T1 wr 4) W W2){T3:Nat->Nat}{hv3:Value}(hE3:Ext (xaF T1 wr 4) T3 W2)(hM3:RMac p T3 W3 mb { m with heap:=xaX m.heap f.self j f.top } (20-(d:Int)) 0 hv3 sv ov)(hK3:Kp (fun t=>t=1) (xaF T1 wr 4) W2 W3) :
  BdX p d T w mb K R av kv c n1 n2 n3 G' (.int .i64 ((k:Int)+1)) W3:=by
 have hp:=hF.pos
 have hr:xaj (xa4 p.E d) p.E d m { f with pc:=f.pc+1 } f.pc x=({ m with heap:=xaX m.heap f.self j f.top },({ f with pc:=f.pc+1 }:Fr).pop,0):=by
  rw[xbX _ _ (by omega)];unfold xcG;rw[if_neg (by omega),if_neg (by omega),if_neg (by omega),if_pos hop,hj];rfl
 have k1:Kp (All K) (xaF T1 wr 4) W W3:=(xd0 hK fun t ht=>by omega).trans (.refl _ _) (xd0 hK3 fun t ht=>by omega)
 have eE:Ext T1 T3 wr:=fun b hb=>(hE3 b (by have:=hW.size;have:=hK.size;omega)).trans (xaq T1 wr 4 b hb)
 exact xcz hX hR hg hx (by omega) hr eE (kp4 hW k1) hM3 (fun _=>⟨_,(hF.keep hE3 hK3 (by omega) (by omega) (by omega) (by omega) (by omega)).at _⟩) (fun _=>by show f.pc+1=_;rw[hx.pc]) (fun _=>hL)
theorem xoh {S n:Int}{mt:QM}(h:xgb S n mt x=0)(ho:x.op=4\/x.op=12):0<=x.a:=by
 unfold xgb at h
 split at h
 ·cases h
 ·rename_i h1
  split at h
  ·cases h
  ·rename_i hra
   rcases ho with ho | ho<;>(simp[raE,ho,inR] at hra;omega)
theorem xp3 (hP:PlOk f)(hx:NxOk f k x)(ho:x.op=4\/x.op=12):0<=x.a:=by
 obtain⟨S,n,hn⟩:=hP.nums
 exact xoh (hn x (List.mem_of_getElem? hx.here)) ho
theorem xnU (hX:Rx p)(hR:BdR p d T w mb K R av kv gk at' T1 m f 0 wr)(hg:gk=G'+1)(hx:NxOk f k x)(hop:x.op=16)(h1:f.top.k≠1)(h2:f.top.k≠2){T2:Nat->Nat}{W2:World}(hE:Ext T1 T2 wr)(hK:Kp (All K) T1 wr W2)(hM:RMac p T2 W2 mb m (20-(d:Int)) 11 hv sv ov) :
  BdX p d T w mb K R av kv c n1 n2 n3 G' (.int .i64 ((k:Int)+1)) W2:=by
 have hr:xaj (xa4 p.E d) p.E d m { f with pc:=f.pc+1 } f.pc x=(m,{ f with pc:=f.pc+1 },11):=by
  rw[xbX _ _ (by omega)];unfold xcG;rw[if_neg (by omega),if_neg (by omega),if_neg (by omega),if_neg (by omega),if_neg (by omega),if_neg (by omega),if_neg (by omega),if_pos hop]
  unfold xbz
  show (if f.top.k=2 then _ else if f.top.k=1 then _ else _)=_
  rw[if_neg (show ¬ f.top.k=2 from h2),if_neg (show ¬ f.top.k=1 from h1)]
 exact xcz hX hR hg hx (by omega) hr hE hK hM (fun h=>by cases h) (fun h=>by cases h) (fun h=>by cases h)
theorem xpG (hX:Rx p)(hR:BdR p d T w mb K R av kv gk at' T1 m f 0 wr)(hg:gk=G'+1)(hx:NxOk f k x)(hop:x.op=16)(h2:f.top.k=2)(hL:xj9 c n1 n2 n3 f){T2:Nat->Nat}{W2:World}(hE:Ext T1 T2 wr)(hK:Kp (All K) T1 wr W2)(hM:RMac p T2 W2 mb m (20-(d:Int)) 0 hv sv ov)(hF:RF T2 K W2 w.heap.size f.pop av kv st) :
  BdX p d T w mb K R av kv c n1 n2 n3 G' (.int .i64 ((k:Int)+1)) W2:=by
 have hr:xaj (xa4 p.E d) p.E d m { f with pc:=f.pc+1 } f.pc x=(m,({ f with pc:=f.pc+1 }:Fr).pop,0):=by
  rw[xbX _ _ (by omega)];unfold xcG;rw[if_neg (by omega),if_neg (by omega),if_neg (by omega),if_neg (by omega),if_neg (by omega),if_neg (by omega),if_neg (by omega),if_pos hop]
  unfold xbz
  show (if f.top.k=2 then _ else if f.top.k=1 then _ else _)=_
  rw[if_pos (show f.top.k=2 from h2)]
 exact xcz hX hR hg hx (by omega) hr hE hK hM (fun _=>⟨_,hF.at _⟩) (fun _=>by show f.pc+1=_;rw[hx.pc]) (fun _=>hL)
theorem xnu (hop:x.op=16)(h1:f.top.k=1)(hx:NxOk f k x):xaj (xa4 p.E d) p.E d m { f with pc:=f.pc+1 } f.pc x=xaV m ({ f with pc:=f.pc+1 }:Fr).pop k x.a:=by
 rw[xbX _ _ (by omega)];unfold xcG;rw[if_neg (by omega),if_neg (by omega),if_neg (by omega),if_neg (by omega),if_neg (by omega),if_neg (by omega),if_neg (by omega),if_pos hop]
 unfold xbz
 show (if f.top.k=2 then _ else if f.top.k=1 then _ else _)=_
 rw[if_neg (show ¬ f.top.k=2 by omega),if_pos (show f.top.k=1 from h1),hx.pc]
theorem xl6 (hop:x.op=15)(hx:NxOk f k x):xaj (xa4 p.E d) p.E d m { f with pc:=f.pc+1 } f.pc x=xaV m { f with pc:=f.pc+1 } k x.a:=by
 rw[xbX _ _ (by omega)];unfold xcG;rw[if_neg (by omega),if_neg (by omega),if_neg (by omega),if_neg (by omega),if_neg (by omega),if_neg (by omega),if_pos hop,hx.pc]
theorem xcU (hF:RF T1 K wr w.heap.size f av kv st)(r4:∀ b,b<U.heap.size->some b≠st.ownBlock->w'.heap[b]?=U.heap[b]?){b o:Nat}{v:Value}(ht:b<wr.heap.size->T1 b≠K+2)(h:U.cell? ⟨b,o,none⟩=some v):w'.cell? ⟨b,o,none⟩=some v:=by
 have hl:=World.block_lt_of_cell? U ⟨b,o,none⟩ h;have hne:some b≠st.ownBlock:=fun e=>ht (hF.stack.lt b e.symm).2 (hF.stag b e.symm)
 unfold World.cell? at h ⊢;rw[r4 b hl hne]
 exact h
end
set_option maxRecDepth 100000
theorem br4:Br 4:=by
 intro p d T T1 w wr W mb K R av kv gk G' m f c n1 n2 n3 k x hv sv ov sa sc H hop
 intros
 rename_i hN K9 hK9;obtain⟨hX,HEn,HR,HG,HX,HMa,HF,HL,HB1,HI,hM1,hF1,hsc1,hsc2,hBl,hWl,hxb,⟨aa,ca,rfl,hca⟩,ht40⟩:=H.pre;have HOP:=hid hop;clear hop;unfold xh4;unfold sw9 at hK9;have hfw:=HX.out.few
 have HPU:Hid (xao m.heap { f with pc:=f.pc+1 } x=some (xcF m.heap f.self x.a)):=by
  show _=_
  have hop:x.op=4:=HOP.out;unfold xao
  simp[hop]
 obtain⟨ah,ch,rfl,-⟩:=id hM1.heap;have hSl:∀ w',Below W.heap.size W w'->w'.cell? ⟨w.heap.size+4,0,none⟩=some (.slice sa f.stack.length sc)/\w'.cell? ⟨mb,1,none⟩=some (.slice ah m.heap.length ch)/\w'.cell? ⟨w.heap.size+1,0,none⟩=some (.int .i64 f.self.k)/\w'.cell? ⟨w.heap.size+1,1,none⟩=some (.int .i64 f.self.n)/\w'.cell? ⟨wr.heap.size,1,none⟩=some (.int .i64 x.a):=fun w' hb=>⟨qzA hb hF1.st,qzA hb hM1.c1,qzA hb hF1.v0,qzA hb hF1.v1,qzA hb hxb.x1⟩
 have hS0:=hSl _ (qzL _ W).drew
 go_upto_region 16 with (fail)
 refine xgK (S:=fun w'=>w'.cell? ⟨w.heap.size+4,0,none⟩=some (.slice sa f.stack.length sc)/\w'.cell? ⟨mb,1,none⟩=some (.slice ah m.heap.length ch)/\w'.cell? ⟨w.heap.size+1,0,none⟩=some (.int .i64 f.self.k)/\w'.cell? ⟨w.heap.size+1,1,none⟩=some (.int .i64 f.self.n)/\w'.cell? ⟨wr.heap.size,1,none⟩=some (.int .i64 x.a)) 12 (by kernel_rfl) ?_
 refine xbI (i:=0) (oi:=⟨some 71,.load 28 (.tmp 12),28,_,_,none⟩) (v:=.slice sa f.stack.length sc) (by kernel_rfl) rfl rfl (by kernel_rfl) (by kernel_rfl) (by kernel_rfl) (fun _ _ _ h=>h) (Or.inl ⟨by rfl,?_⟩) hS0 ?_
 ·rintro w⟨q0,q1,q2,q3,q4⟩;go_simp
 try simp only[Act.put,qzF,qzG,qzH]
 refine xbI (i:=1) (oi:=⟨some 72,.move (.tmp 0),69,_,_,none⟩) (v:=.pointer (some ⟨mb,0,none⟩)) (by kernel_rfl) rfl rfl (by kernel_rfl) (by kernel_rfl) (by kernel_rfl) (fun _ _ _ h=>h) (Or.inl ⟨by rfl,?_⟩) hS0 ?_
 ·rintro w⟨q0,q1,q2,q3,q4⟩;go_simp
 try simp only[Act.put,qzF,qzG,qzH]
 refine xbI (i:=2) (oi:=⟨some 73,.nilCheck (.tmp 72),0,_,_,none⟩) (v:=.pointer (some ⟨mb,0,none⟩)) (by kernel_rfl) rfl rfl (by kernel_rfl) (by kernel_rfl) (by kernel_rfl) (fun _ _ _ h=>h) (Or.inl ⟨by rfl,?_⟩) hS0 ?_
 ·rintro w⟨q0,q1,q2,q3,q4⟩;go_simp
 try simp only[Act.put,qzF,qzG,qzH]
 refine xbI (i:=3) (oi:=⟨some 74,.fieldAddr 113 (.tmp 73) 0,0,_,_,none⟩) (v:=.pointer (some ⟨mb,0,none⟩)) (by kernel_rfl) rfl rfl (by kernel_rfl) (by kernel_rfl) (by kernel_rfl) (fun _ _ _ h=>h) (Or.inl ⟨by rfl,?_⟩) hS0 ?_
 ·rintro w⟨q0,q1,q2,q3,q4⟩;go_simp
 try simp only[Act.put,qzF,qzG,qzH]
 refine xbI (i:=4) (oi:=⟨some 75,.fieldAddr 25 (.tmp 74) 1,0,_,_,none⟩) (v:=.pointer (some ⟨mb,1,none⟩)) (by kernel_rfl) rfl rfl (by kernel_rfl) (by kernel_rfl) (by kernel_rfl) (fun _ _ _ h=>h) (Or.inl ⟨by rfl,?_⟩) hS0 ?_
 ·rintro w⟨q0,q1,q2,q3,q4⟩;go_simp
 try simp only[Act.put,qzF,qzG,qzH]
 refine xbI (i:=5) (oi:=⟨some 76,.load 23 (.tmp 75),23,_,_,none⟩) (v:=.slice ah m.heap.length ch) (by kernel_rfl) rfl rfl (by kernel_rfl) (by kernel_rfl) (by kernel_rfl) (fun _ _ _ h=>h) (Or.inl ⟨by rfl,?_⟩) hS0 ?_
 ·rintro w⟨q0,q1,q2,q3,q4⟩;go_simp
 try simp only[Act.put,qzF,qzG,qzH]
 refine xbI (i:=6) (oi:=⟨some 77,.load 27 (.tmp 8),27,_,_,none⟩) (v:=VV f.self) (by kernel_rfl) rfl rfl (by kernel_rfl) (by kernel_rfl) (by kernel_rfl) (fun _ _ _ h=>h) (Or.inl ⟨by rfl,?_⟩) hS0 ?_
 ·rintro w⟨q0,q1,q2,q3,q4⟩;go_simp
 try simp only[Act.put,qzF,qzG,qzH]
 refine xbI (i:=7) (oi:=⟨some 78,.fieldAddr 59 (.tmp 15) 1,0,_,_,none⟩) (v:=.pointer (some ⟨wr.heap.size,1,none⟩)) (by kernel_rfl) rfl rfl (by kernel_rfl) (by kernel_rfl) (by kernel_rfl) (fun _ _ _ h=>h) (Or.inl ⟨by rfl,?_⟩) hS0 ?_
 ·rintro w⟨q0,q1,q2,q3,q4⟩;go_simp
 try simp only[Act.put,qzF,qzG,qzH]
 refine xbI (i:=8) (oi:=⟨some 79,.load 3 (.tmp 78),3,_,_,none⟩) (v:=.int .i64 x.a) (by kernel_rfl) rfl rfl (by kernel_rfl) (by kernel_rfl) (by kernel_rfl) (fun _ _ _ h=>h) (Or.inl ⟨by rfl,?_⟩) hS0 ?_
 ·rintro w⟨q0,q1,q2,q3,q4⟩;go_simp
 try simp only[Act.put,qzF,qzG,qzH]
 refine xcV (rs:=[9]) (by kernel_rfl) (by simp) ?_
 intro i hi;simp only[List.mem_cons,List.not_mem_nil,or_false] at hi;subst hi;refine xn0 (o:=⟨some 80,.call ⟨.value (.func 87),#[.tmp 76,.tmp 77,.tmp 79],#[23,27,3]⟩,27,_,_,none⟩) rfl (fun K' hK=>?_)
 refine xaZ rfl 87 (.func 87) #[.tmp 76,.tmp 77,.tmp 79] _ rfl #[] rfl #[.slice ah m.heap.length ch,VV f.self,.int .i64 x.a] (by simp[Act.eval,Act.put]) (vf48 _ _) ?_
 refine (show Calls Try.prog 87 #[.slice ah m.heap.length ch,VV f.self,.int .i64 x.a] W.drew _ from (xmS m.heap _ f.self x.a _ (hM1.heap.later xaE (qzL _ W).drew)).mono ?_)
 rintro e wc ⟨rfl,hbc⟩;refine⟨_,rfl,?_⟩;generalize xcF m.heap f.self x.a=y at *;have hbW:Below W.heap.size W wc:=xaf (qzL _ W).drew hbc;refine hK _ _ (fun _=>hSl _ hbW) ?_
 clear hK K'
 try simp only[Act.put,qzF,qzG,qzH]
 refine xcV (rs:=[10]) (by kernel_rfl) (by simp) ?_
 intro i hi;simp only[List.mem_cons,List.not_mem_nil,or_false] at hi;subst hi;refine xn0 (o:=⟨some 81,.buildSlice 28 1 #[(0,.tmp 80)],28,_,_,none⟩) rfl (fun K' hK=>?_)
 go_simp;refine hK _ _ (fun _=>hSl _ (xaf hbW (xak _ _))) ?_
 clear hK K'
 try simp only[Act.put,qzF,qzG,qzH]
 refine xcV (rs:=[11]) (by kernel_rfl) (by simp) ?_
 intro i hi;simp only[List.mem_cons,List.not_mem_nil,or_false] at hi;subst hi;refine xn0 (o:=⟨some 82,.call ⟨.builtin .append,#[.tmp 71,.tmp 81],#[28,28]⟩,28,_,_,none⟩) rfl (fun K' hK=>?_)
 have hst:ownsAt (wc.alloc (.cells #[.int .i64 y.k,.int .i64 y.n] 27)) 0 27 2 (.slice sa f.stack.length sc) f.stack.length (xam f.stack):=((hF1.later hbW).stack.alloc _);obtain⟨v',w',hrun,r1,r2,r3,r4⟩:=xaL (w:=wc.alloc (.cells #[.int .i64 y.k,.int .i64 y.n] 27)) 28 28 27 _ 2 16 Try.underlying28 xcg rfl (by omega) 0 f.stack.length (.slice sa f.stack.length sc) (xam f.stack) hst wc.heap.size [.int .i64 y.k,.int .i64 y.n] rfl (qzJ wc _) (by intro u hu;simp only[List.mem_cons,List.not_mem_nil,or_false] at hu;rcases hu with h | h<;>(subst h;rfl)) (by unfold maxLen;omega) (by omega) (by omega)
 obtain⟨a',cap',rfl,-⟩:=r1.form;have hbU:Below wr.heap.size wr (wc.alloc (.cells #[.int .i64 y.k,.int .i64 y.n] 27)):=xaf (xaf HB1.out hbW) (xak _ _);obtain⟨d0,df⟩:=xb8 HF.out hbU r4;refine xaw rfl (.tmp 71) (.tmp 81) 28 rfl (.slice sa f.stack.length sc) (.slice (some ⟨wc.heap.size,0,none⟩) 1 1) (.slice a' (f.stack.length+1) cap') (by simp[Act.eval,Act.put]) (by simp[Act.eval,Act.put]) hrun ?_
 obtain⟨z0,z1,z2,z3,z4⟩:=hSl _ (xaf hbW (xak wc (.cells #[.int .i64 y.k,.int .i64 y.n] 27)));have hp5:=HF.out.pos;have hSa:w'.cell? ⟨w.heap.size+4,0,none⟩=some (.slice sa f.stack.length sc)/\w'.cell? ⟨mb,1,none⟩=some (.slice ah m.heap.length ch)/\w'.cell? ⟨w.heap.size+1,0,none⟩=some (.int .i64 f.self.k)/\w'.cell? ⟨w.heap.size+1,1,none⟩=some (.int .i64 f.self.n)/\w'.cell? ⟨wr.heap.size,1,none⟩=some (.int .i64 x.a):=⟨d0,xcU HF.out r4 (fun _=>by rw[HMa.out.tag];omega) z1,xcU HF.out r4 (fun _=>by rw[HF.out.t1];omega) z2,xcU HF.out r4 (fun _=>by rw[HF.out.t1];omega) z3,xcU HF.out r4 (fun h=>absurd h (Nat.lt_irrefl _)) z4⟩
 refine hK _ _ (fun _=>hSa) ?_
 clear hK K'
 try simp only[Act.put,qzF,qzG,qzH]
 refine xcV (rs:=[12]) (by kernel_rfl) (by simp) ?_
 intro i hi;simp only[List.mem_cons,List.not_mem_nil,or_false] at hi;subst hi;refine xn0 (o:=⟨none,.store 28 (.tmp 12) (.tmp 82),0,_,_,none⟩) rfl (fun K' hK=>?_)
 go_simp;refine hK _ _ (fun h=>absurd rfl h) ?_
 clear hK K'
 try simp only[Act.put,qzF,qzG,qzH]
 refine xjh (by kernel_rfl) ?_ _
 try simp only[Act.put,qzF,qzG,qzH]
 go_wp2
 exact Or.inl ⟨rfl,xcW hX HR.out HG.out HX.out HPU.out HMa.out HF.out HL.out hbU r1 r2 r3 r4⟩
theorem br5:Br 5:=by
 intro p d T T1 w wr W mb K R av kv gk G' m f c n1 n2 n3 k x hv sv ov sa sc H hop
 intros
 rename_i hN K9 hK9;obtain⟨hX,HEn,HR,HG,HX,HMa,HF,HL,HB1,HI,hM1,hF1,hsc1,hsc2,hBl,hWl,hxb,⟨aa,ca,rfl,hca⟩,ht40⟩:=H.pre;have HOP:=hid hop;clear hop;unfold xh4;unfold sw9 at hK9
 have HPU:Hid (xao m.heap { f with pc:=f.pc+1 } x=some (QV.mk 3 x.a)):=by
  show _=_
  have hop:x.op=5:=HOP.out;unfold xao
  simp[hop]
 have hst0:=hF1.st;have x1:=hxb.x1;have HSt:=hid hF1.stack;have hfw:=HX.out.few
 go_wp2_with (at_builtin;refine xbf rfl (.tmp 85) (.tmp 89) 28 27 _ 2 16 rfl Try.underlying28 xcg rfl (by omega) 0 f.stack.length (.slice sa f.stack.length sc) (xam f.stack) rfl (HSt.out.alloc _) W.heap.size rfl [.int .i64 3,.int .i64 x.a] rfl (qzJ _ _) (by intro u hu;simp only[List.mem_cons,List.not_mem_nil,or_false] at hu;rcases hu with h | h<;>(subst h;rfl)) (by unfold maxLen;omega) (by omega) (by omega) ?_;intro a' cap' w' r1 r2 r3 r4;have hbU:=xaf HB1.out (xak W (.cells #[.int .i64 3,.int .i64 x.a] 27));obtain⟨d0,df⟩:=xb8 HF.out hbU r4;have R1:=hid r1;have R2:=hid r2;have R3:=hid r3;have R4:=hid r4;have HBU:=hid hbU;clear r1 r2 r3 r4 hbU)
 exact Or.inl ⟨rfl,xcW hX HR.out HG.out HX.out HPU.out HMa.out HF.out HL.out HBU.out R1.out R2.out R3.out R4.out⟩
theorem br6:Br 6:=by
 intro p d T T1 w wr W mb K R av kv gk G' m f c n1 n2 n3 k x hv sv ov sa sc H hop
 intros
 rename_i hN K9 hK9;obtain⟨hX,HEn,HR,HG,HX,HMa,HF,HL,HB1,HI,hM1,hF1,hsc1,hsc2,hBl,hWl,hxb,⟨aa,ca,rfl,hca⟩,ht40⟩:=H.pre;have HOP:=hid hop;clear hop;unfold xh4;unfold sw9 at hK9
 have HPU:Hid (xao m.heap { f with pc:=f.pc+1 } x=some xaU):=by
  show _=_
  have hop:x.op=6:=HOP.out;unfold xao
  simp[hop]
 have hst0:=hF1.st;have x1:=hxb.x1;have HSt:=hid hF1.stack;have hfw:=HX.out.few
 go_wp2_with (at_builtin;refine xbf rfl (.tmp 93) (.tmp 95) 28 27 _ 2 16 rfl Try.underlying28 xcg rfl (by omega) 0 f.stack.length (.slice sa f.stack.length sc) (xam f.stack) rfl (HSt.out.alloc _) W.heap.size rfl [.int .i64 0,.int .i64 0] rfl (qzJ _ _) (by intro u hu;simp only[List.mem_cons,List.not_mem_nil,or_false] at hu;rcases hu with h | h<;>(subst h;rfl)) (by unfold maxLen;omega) (by omega) (by omega) ?_;intro a' cap' w' r1 r2 r3 r4;have hbU:=xaf HB1.out (xak W (.cells #[.int .i64 0,.int .i64 0] 27));obtain⟨d0,df⟩:=xb8 HF.out hbU r4;have R1:=hid r1;have R2:=hid r2;have R3:=hid r3;have R4:=hid r4;have HBU:=hid hbU;clear r1 r2 r3 r4 hbU)
 exact Or.inl ⟨rfl,xcW hX HR.out HG.out HX.out HPU.out HMa.out HF.out HL.out HBU.out R1.out R2.out R3.out R4.out⟩
theorem br7:Br 7:=by
 intro p d T T1 w wr W mb K R av kv gk G' m f c n1 n2 n3 k x hv sv ov sa sc H hop
 intros
 rename_i hN K9 hK9;obtain⟨hX,HEn,HR,HG,HX,HMa,HF,HL,HB1,HI,hM1,hF1,hsc1,hsc2,hBl,hWl,hxb,⟨aa,ca,rfl,hca⟩,ht40⟩:=H.pre;have HOP:=hid hop;clear hop;unfold xh4;unfold sw9 at hK9;have hfw:=HX.out.few
 have HPU:Hid (xao m.heap { f with pc:=f.pc+1 } x=some ⟨1,0⟩):=by
  show _=_
  have hop:x.op=7:=HOP.out;unfold xao
  simp[hop]
 have hS0:=pcS (hF1.st) (hxb.x1) (PcS.mk hM1 hF1 HB1.out) (qzL _ W).drew
 go_upto_region 22 with (fail)
 go_region_law (first
  | (refine xaZ rfl 85 (.func 85) #[.const (.bool false)] _ rfl #[] rfl #[.bool false] (by simp[Act.eval,Act.put]) (vf46 _ _) ?_;refine (xeE false _).mono ?_;rintro e wc ⟨rfl,hbc⟩;refine⟨_,rfl,?_⟩;have hS1:=pcL hS0 hbc;obtain⟨hst1,hx1,hP⟩:=id hS1;have hst1a:=qzA (xak wc (.cells #[.int .i64 1,.int .i64 0] 27)) hst1)
  | (have hst:ownsAt (wc.alloc (.cells #[.int .i64 1,.int .i64 0] 27)) 0 27 2 (.slice sa f.stack.length sc) f.stack.length (xam f.stack):=(hP.fr.stack.alloc _);obtain⟨v',w',hrun,r1,r2,r3,r4⟩:=xaL (w:=wc.alloc (.cells #[.int .i64 1,.int .i64 0] 27)) 28 28 27 _ 2 16 Try.underlying28 xcg rfl (by omega) 0 f.stack.length (.slice sa f.stack.length sc) (xam f.stack) hst wc.heap.size [.int .i64 1,.int .i64 0] rfl (qzJ wc _) (by intro u hu;simp only[List.mem_cons,List.not_mem_nil,or_false] at hu;rcases hu with h | h<;>(subst h;rfl)) (by unfold maxLen;omega) (by omega) (by omega);obtain⟨a',cap',rfl,-⟩:=r1.form;have hbU:Below wr.heap.size wr (wc.alloc (.cells #[.int .i64 1,.int .i64 0] 27)):=xaf hP.bel (xak _ _);obtain⟨d0,df⟩:=xb8 HF.out hbU r4;have R1:=hid r1;have R2:=hid r2;have R3:=hid r3;have R4:=hid r4;have HBU:=hid hbU;clear r1 r2 r3 r4 hbU hst;refine xaw rfl (.tmp 99) (.tmp 101) 28 rfl (.slice sa f.stack.length sc) (.slice (some ⟨wc.heap.size,0,none⟩) 1 1) (.slice a' (f.stack.length+1) cap') (by simp[Act.eval,Act.put]) (by simp[Act.eval,Act.put]) hrun ?_))
 all_goals (
  go_wp2
  exact Or.inl ⟨rfl,xcW hX HR.out HG.out HX.out HPU.out HMa.out HF.out HL.out HBU.out R1.out R2.out R3.out R4.out⟩)
theorem br8:Br 8:=by
 intro p d T T1 w wr W mb K R av kv gk G' m f c n1 n2 n3 k x hv sv ov sa sc H hop
 intros
 rename_i hN K9 hK9;obtain⟨hX,HEn,HR,HG,HX,HMa,HF,HL,HB1,HI,hM1,hF1,hsc1,hsc2,hBl,hWl,hxb,⟨aa,ca,rfl,hca⟩,ht40⟩:=H.pre;have HOP:=hid hop;clear hop;unfold xh4;unfold sw9 at hK9;have hfw:=HX.out.few
 have HPU:Hid (xao m.heap { f with pc:=f.pc+1 } x=some ⟨2,0⟩):=by
  show _=_
  have hop:x.op=8:=HOP.out;unfold xao
  simp[hop]
 have hS0:=pcS (hF1.st) (hxb.x1) (PcS.mk hM1 hF1 HB1.out) (qzL _ W).drew
 go_upto_region 24 with (fail)
 go_region_law (first
  | (refine xaZ rfl 85 (.func 85) #[.const (.bool true)] _ rfl #[] rfl #[.bool true] (by simp[Act.eval,Act.put]) (vf46 _ _) ?_;refine (xeE true _).mono ?_;rintro e wc ⟨rfl,hbc⟩;refine⟨_,rfl,?_⟩;have hS1:=pcL hS0 hbc;obtain⟨hst1,hx1,hP⟩:=id hS1;have hst1a:=qzA (xak wc (.cells #[.int .i64 2,.int .i64 0] 27)) hst1)
  | (have hst:ownsAt (wc.alloc (.cells #[.int .i64 2,.int .i64 0] 27)) 0 27 2 (.slice sa f.stack.length sc) f.stack.length (xam f.stack):=(hP.fr.stack.alloc _);obtain⟨v',w',hrun,r1,r2,r3,r4⟩:=xaL (w:=wc.alloc (.cells #[.int .i64 2,.int .i64 0] 27)) 28 28 27 _ 2 16 Try.underlying28 xcg rfl (by omega) 0 f.stack.length (.slice sa f.stack.length sc) (xam f.stack) hst wc.heap.size [.int .i64 2,.int .i64 0] rfl (qzJ wc _) (by intro u hu;simp only[List.mem_cons,List.not_mem_nil,or_false] at hu;rcases hu with h | h<;>(subst h;rfl)) (by unfold maxLen;omega) (by omega) (by omega);obtain⟨a',cap',rfl,-⟩:=r1.form;have hbU:Below wr.heap.size wr (wc.alloc (.cells #[.int .i64 2,.int .i64 0] 27)):=xaf hP.bel (xak _ _);obtain⟨d0,df⟩:=xb8 HF.out hbU r4;have R1:=hid r1;have R2:=hid r2;have R3:=hid r3;have R4:=hid r4;have HBU:=hid hbU;clear r1 r2 r3 r4 hbU hst;refine xaw rfl (.tmp 105) (.tmp 107) 28 rfl (.slice sa f.stack.length sc) (.slice (some ⟨wc.heap.size,0,none⟩) 1 1) (.slice a' (f.stack.length+1) cap') (by simp[Act.eval,Act.put]) (by simp[Act.eval,Act.put]) hrun ?_))
 all_goals (
  go_wp2
  exact Or.inl ⟨rfl,xcW hX HR.out HG.out HX.out HPU.out HMa.out HF.out HL.out HBU.out R1.out R2.out R3.out R4.out⟩)
theorem br9:Br 9:=by
 intro p d T T1 w wr W mb K R av kv gk G' m f c n1 n2 n3 k x hv sv ov sa sc H hop
 intros
 rename_i hN K9 hK9;obtain⟨hX,HEn,HR,HG,HX,HMa,HF,HL,HB1,HI,hM1,hF1,hsc1,hsc2,hBl,hWl,hxb,⟨aa,ca,rfl,hca⟩,ht40⟩:=H.pre;have HOP:=hid hop;clear hop;unfold xh4;unfold sw9 at hK9;have hneed:=HX.out.need
 have hnx:0<f.stack.length:=by
  have hop:x.op=9:=HOP.out;have hn:xaS x k=⟨1,-1,[(k:Int)+1]⟩:=by unfold xaS;rw[if_pos (by omega)]
  rw[hn] at hneed;simp only[] at hneed;omega
 go_wp2_with fail;refine (xfj hF1 hnx).mono ?_;rintro e w2 ⟨rfl,⟨st',hF2⟩,hK2⟩;have HF2:=hid hF2;have HK2:=hid hK2;clear hF1 hF2 hK2 hM1;go_wp2
 exact Or.inl ⟨rfl,xqv hX HR.out HG.out HX.out (Or.inl HOP.out) HMa.out HL.out HB1.out HF2.out HK2.out⟩
theorem br10:Br 10:=by
 intro p d T T1 w wr W mb K R av kv gk G' m f c n1 n2 n3 k x hv sv ov sa sc H hop
 intros
 rename_i hN K9 hK9;obtain⟨hX,HEn,HR,HG,HX,HMa,HF,HL,HB1,HI,hM1,hF1,hsc1,hsc2,hBl,hWl,hxb,⟨aa,ca,rfl,hca⟩,ht40⟩:=H.pre;have HOP:=hid hop;clear hop;unfold xh4;unfold sw9 at hK9;have hneed:=HX.out.need
 have hnx:0<f.stack.length:=by
  have hop:x.op=10:=HOP.out;have hn:xaS x k=⟨1,1,[(k:Int)+1]⟩:=by unfold xaS;rw[if_neg (by omega),if_pos hop]
  rw[hn] at hneed;simp only[] at hneed;omega
 have hfw:=HX.out.few;have hp5:=hF1.pos;go_wp2_with fail;refine (xfj hF1 hnx).mono ?_;rintro e w2 ⟨rfl,⟨st',hF2⟩,hK2⟩;dsimp only;obtain⟨sb,sd,rfl,hsd1,hsd2⟩:=hF2.stack.form;unfold maxLen at hsd2;have HF2:=hid hF2;have HK2:=hid hK2;have hbx:=xak w2 (.cells #[.int .i64 f.top.k,.int .i64 f.top.n] 27);have hst2:=(hF2.later hbx).st;have b0:(w2.alloc (.cells #[.int .i64 f.top.k,.int .i64 f.top.n] 27)).cell? ⟨w2.heap.size,0,none⟩=some (.int .i64 f.top.k):=xaa _ _ _ _ rfl 0;have b1:(w2.alloc (.cells #[.int .i64 f.top.k,.int .i64 f.top.n] 27)).cell? ⟨w2.heap.size,1,none⟩=some (.int .i64 f.top.n):=xaa _ _ _ _ rfl 1
 have HF3:=hid (hF2.later hbx);have HBX:=hid hbx;clear hF1 hF2 hK2 hM1 hbx
 go_upto_region 29 with (fail)
 generalize (w2.alloc (.cells #[.int .i64 f.top.k,.int .i64 f.top.n] 27))=V at *;have hpl:f.pop.stack.length+1=f.stack.length:=by unfold Fr.pop;simp;omega
 go_wp2_with (at_builtin;refine xfg rfl (.tmp 117) (.tmp 120) 28 27 _ 2 16 rfl Try.underlying28 xcg rfl (by omega) 0 f.pop.stack.length (.slice sb f.pop.stack.length sd) (xam f.pop.stack) rfl (HF3.out.stack.alloc _) V.heap.size rfl [.int .i64 f.top.k,.int .i64 f.top.n,.int .i64 f.top.k,.int .i64 f.top.n] rfl (qzJ _ _) (by intro u hu;simp only[List.mem_cons,List.not_mem_nil,or_false] at hu;rcases hu with h | h | h | h<;>(subst h;rfl)) (by unfold maxLen;omega) (by omega) (by omega) ?_;intro a' cap' w' r1 r2 r3 r4;have hbU:=xaf HBX.out (xak V (.cells #[.int .i64 f.top.k,.int .i64 f.top.n,.int .i64 f.top.k,.int .i64 f.top.n] 27));obtain⟨d0,df⟩:=xb8 HF2.out hbU r4;have R1:=hid r1;have R2:=hid r2;have R3:=hid r3;have R4:=hid r4;have HBU:=hid hbU;clear r1 r2 r3 r4 hbU)
 exact Or.inl ⟨rfl,xqf hX HR.out HG.out HX.out HOP.out HMa.out HL.out hnx HB1.out HF2.out HK2.out HBU.out R1.out R2.out R3.out R4.out⟩
theorem br11:Br 11:=by
 intro p d T T1 w wr W mb K R av kv gk G' m f c n1 n2 n3 k x hv sv ov sa sc H hop
 intros
 rename_i hN K9 hK9;obtain⟨hX,HEn,HR,HG,HX,HMa,HF,HL,HB1,HI,hM1,hF1,hsc1,hsc2,hBl,hWl,hxb,⟨aa,ca,rfl,hca⟩,ht40⟩:=H.pre;have HOP:=hid hop;clear hop;unfold xh4;unfold sw9 at hK9;obtain⟨ha0,ha1⟩:=HX.out.temp (Or.inr HOP.out);obtain⟨j,hj⟩:∃ j:Nat,x.a=(j:Int):=⟨x.a.toNat,by omega⟩
 have hl1:=HL.out.2.2.1;have hjl:j<f.temps.length:=by omega
 have hnx:0<f.stack.length:=xkN HX.out (by have hop:x.op=11:=HOP.out;unfold xaS;rw[if_pos (by omega)])
 have x1:=hxb.x1;have hbD:Below W.heap.size W W.drew:=(qzL _ W).drew;have hFt:=HF.out.t4W (U:=W.drew) (xaf HB1.out hbD);have hp5:=hFt.pos;have hj1:(j:Int)<(n2:Int):=by omega
 have hj0:(0:Int)<=(j:Int):=by omega
 have HJ:=hid hj;rw[hj] at x1;clear hM1 hF1 hj ha0 ha1
 go_upto_region 31 with (fail)
 go_region_law (refine xaZ rfl 86 (.tmp 127) #[] _ rfl #[.pointer (some ⟨w.heap.size+4,0,none⟩)] (by simp[Act.eval,Act.put]) #[] (by simp) (vf47 _ _) ?_;refine (show Calls Try.prog 86 #[.pointer (some ⟨w.heap.size+4,0,none⟩)] W.drew _ from (xfj hFt hnx).mono ?_);rintro e w2 ⟨rfl,⟨st',hF2⟩,hK2⟩;refine⟨_,rfl,?_⟩;have hx2:=hK2.cell (show W.drew.cell? ⟨wr.heap.size,1,none⟩=some (.int .i64 (j:Int)) from x1) (by rw[xaJ (qzC _)];omega);obtain⟨y0,y1⟩:=xfz hF2.tm (show f.pop.temps[j]?=some f.temps[j] by show f.temps[j]?=_;simp[hjl]);have yf:=xap hF2.tm;have HF2:=hid hF2;have HK2:=hid hK2;clear hF2 hK2)
 all_goals (
  go_wp2
  exact Or.inl ⟨rfl,xqB hX HR.out HG.out HX.out HOP.out HJ.out HMa.out HL.out (xaf HB1.out hbD) HF2.out HK2.out⟩)
end Go.Proofs.Ytdfbgpiikeheiaa
