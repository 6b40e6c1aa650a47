/-
  FareSingles: proved of the landed packages fare and line, for all arguments; conditions: none but the statement's own.
-/
import Derived.Test.YtniffcjcnjhehaaFareSinglesOf
import Derived.Test.YtniffcjcnjhehaaFarePC
namespace Go.Proofs.Ytniffcjcnjhehaa
theorem fareSingles_holds : Rows.FareSinglesSaid := fareSingles_of fare_contracts
end Go.Proofs.Ytniffcjcnjhehaa
