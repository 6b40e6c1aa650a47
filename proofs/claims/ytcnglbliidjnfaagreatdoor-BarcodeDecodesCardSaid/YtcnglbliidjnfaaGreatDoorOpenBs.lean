import Derived.Test.YtcnglbliidjnfaaGreatDoorMem
import Derived.Test.YtcnglbliidjnfaaGreatDoorBarConst
import Derived.Test.YtcnglbliidjnfaaGreatDoorBarCoded
namespace Go.Proofs.YtcnglbliidjnfaaGreatDoor
set_option maxRecDepth 100000
set_option linter.unusedVariables false
open Go.ChangeShapes Go.WideShapes Go.ChangeAt Go.RowKit
section
variable {H:Type} {enc:TypeId × Value→H}
theorem open_bs {W:World} {r:Reach} {b0:Nat} {v:Value} {d:DataW H} {ps:List MemPlace} (hval:Value.okWide Tryz.prog W r b0 30 v) (hd:DataW.Trod enc Tryz.prog W 0 (fun _=>true) true 30 v d ps):
  ∃(A:Option Addr) (s:List Nat) (c:Nat),v= .slice A s.length c∧Bs W W.heap.size s A c:=by
 obtain⟨A,l,c,h1,h2,h3,h4,h5,h6,_⟩:=open_nats_full Tryz.underlying30 Tryz.underlying5 Tryz.cellsU8 wf_u8 hval hd
 exact⟨A,l,c,h1,⟨h2,h6,h4,by unfold maxLen at h5;omega,h3⟩⟩
end
end Go.Proofs.YtcnglbliidjnfaaGreatDoor
