/-
  RingDays over the landed ring.
-/
import Derived.Test.YtedkgkokfaadfaaRingDaysOf
import Derived.Test.YtedkgkokfaadfaaRingPAdd
namespace Go.Proofs.Ytedkgkokfaadfaa
theorem ringDays_holds : Rows.RingDaysSaid := ringDays_of ring_contracts
end Go.Proofs.Ytedkgkokfaadfaa
