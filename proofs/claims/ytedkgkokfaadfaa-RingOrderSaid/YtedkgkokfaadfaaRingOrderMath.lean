/-
  Plain facts on adding two keys to a ring. No program here.
-/
import Derived.Test.YtedkgkokfaadfaaRingAddMath
namespace Go.Proofs.Ytedkgkokfaadfaa
end Go.Proofs.Ytedkgkokfaadfaa
