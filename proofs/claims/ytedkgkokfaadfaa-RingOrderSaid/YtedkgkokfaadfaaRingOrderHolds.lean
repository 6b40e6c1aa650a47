/-
  RingOrder over the landed ring.
-/
import Derived.Test.YtedkgkokfaadfaaRingOrderOf
import Derived.Test.YtedkgkokfaadfaaRingPAdd
namespace Go.Proofs.Ytedkgkokfaadfaa
theorem ringOrder_holds : Rows.RingOrderSaid := ringOrder_of ring_contracts
end Go.Proofs.Ytedkgkokfaadfaa
