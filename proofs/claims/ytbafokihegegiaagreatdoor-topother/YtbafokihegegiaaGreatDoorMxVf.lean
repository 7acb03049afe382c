/- A part. -/
import Derived.Test.YtbafokihegegiaaGreatDoorM26
import Derived.Test.YtbafokihegegiaaGreatDoorMxPg
namespace Go.Proofs.YtbafokihegegiaaGreatDoor
open Go.ChangeShapes Go.WideShapes Go.ChangeAt Go.RowKit
set_option linter.unusedSimpArgs false
set_option linter.unusedVariables false
set_option maxHeartbeats 8000000
set_option maxRecDepth 100000
theorem xsU {c:Int}{name:ByteArray}{args temps:Int}{code:List QI}(h:name.size<=100):NamesOk (xrb c name args temps code):=⟨by show ByteArray.size ⟨#[]⟩<=_;decide,by show name.size<=_;omega,by show ByteArray.size ⟨#[]⟩<=_;decide⟩
theorem xsX (m:Int):∀ x∈[in_ 5 m,in_ 17 0],x.name.size<=140737488351232:=by
 intro x hx;simp only[List.mem_cons,List.not_mem_nil,or_false] at hx
 rcases hx with rfl | rfl<;>(show ByteArray.size ⟨#[]⟩<=_;decide)
end Go.Proofs.YtbafokihegegiaaGreatDoor
