/-
  RingAdds over the landed ring.
-/
import Derived.Test.YtedkgkokfaadfaaRingAddsOf
import Derived.Test.YtedkgkokfaadfaaRingPAdd
namespace Go.Proofs.Ytedkgkokfaadfaa
theorem ringAdds_holds : Rows.RingAddsSaid := ringAdds_of ring_contracts
end Go.Proofs.Ytedkgkokfaadfaa
