/-
  RingFinds over the landed ring.
-/
import Derived.Test.YtedkgkokfaadfaaRingFindsOf
import Derived.Test.YtedkgkokfaadfaaRingPAdd
namespace Go.Proofs.Ytedkgkokfaadfaa
theorem ringFinds_holds : Rows.RingFindsSaid := ringFinds_of ring_contracts
end Go.Proofs.Ytedkgkokfaadfaa
