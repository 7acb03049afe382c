/- A part. -/
import Derived.Test.YtbafokihegegiaaGreatDoorM25
namespace Go.Proofs.YtbafokihegegiaaGreatDoor
open Go.ChangeShapes Go.WideShapes Go.ChangeAt Go.RowKit
set_option linter.unusedSimpArgs false
set_option linter.unusedVariables false
set_option maxHeartbeats 8000000
set_option maxRecDepth 100000
theorem xrK:(Tryz.prog.info? 56).map (fun i=>(i.zero,i.size,i.bytes))=some (some (.agg #[.int .i64 0,.string ⟨#[]⟩,.int .i64 0,.int .i64 0,.string ⟨#[]⟩,.int .i64 0,.int .i64 0,.int .i64 0,.slice none 0 0,.int .i64 0,.int .i64 0,.string ⟨#[]⟩,.slice none 0 0]),13,160):=by kernel_rfl
theorem xhf {k:Int}{v:QV}{name:ByteArray}{args:List QV}(h:name.size<=100):NamesOk (xdj k v name args):=⟨by show ByteArray.size ⟨#[]⟩<=_;decide,by show ByteArray.size ⟨#[]⟩<=_;decide,by show name.size<=_;omega⟩
end Go.Proofs.YtbafokihegegiaaGreatDoor
