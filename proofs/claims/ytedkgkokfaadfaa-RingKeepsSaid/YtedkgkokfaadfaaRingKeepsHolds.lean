/-
  RingKeeps over the landed ring.
-/
import Derived.Test.YtedkgkokfaadfaaRingKeepsOf
import Derived.Test.YtedkgkokfaadfaaRingPAdd
namespace Go.Proofs.Ytedkgkokfaadfaa
theorem ringKeeps_holds : Rows.RingKeepsSaid := ringKeeps_of ring_contracts
end Go.Proofs.Ytedkgkokfaadfaa
