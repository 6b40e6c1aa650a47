import Derived.Test.YtmdbfogjfbbpjaaGreatDoorLayPFields
import Derived.Test.YtmdbfogjfbbpjaaGreatDoorMem
import Derived.Test.YtmdbfogjfbbpjaaGreatDoorEqualBytes
set_option linter.unusedVariables false
namespace Go.Proofs.YtmdbfogjfbbpjaaGreatDoor
set_option maxRecDepth 100000
open Go.ChangeShapes Go.WideShapes Go.ChangeAt Go.RowKit
section
variable {H:Type} {enc:TypeId × Value→H}
theorem gS {W:World} {r:Reach} {b0:Nat} {v:Value} {d:DataW H} {ps:List MemPlace} (hval:Value.okWide Tryz.prog W r b0 23 v) (hd:DataW.Trod enc Tryz.prog W 0 (fun _=>true) true 23 v d ps):
  ∃(A:Option Addr) (s:List Nat) (c:Nat),v= .slice A s.length c∧Bs W W.heap.size s A c:=by
 obtain⟨A,l,c,h1,h2,h3,h4,h5,h6,_⟩:=Jk Tryz.underlying23 Tryz.underlying5 Tryz.cellsU8 jZ hval hd
 exact⟨A,l,c,h1,⟨h2,h6,h4,by unfold maxLen at h5;omega,h3⟩⟩
end
end Go.Proofs.YtmdbfogjfbbpjaaGreatDoor
