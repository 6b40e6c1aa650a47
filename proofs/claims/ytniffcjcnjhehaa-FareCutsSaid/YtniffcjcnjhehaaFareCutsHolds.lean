/-
  FareCuts: proved of the landed packages fare and line, for all arguments; conditions: none but the statement's own.
-/
import Derived.Test.YtniffcjcnjhehaaFareCutsOf
import Derived.Test.YtniffcjcnjhehaaFarePC
namespace Go.Proofs.Ytniffcjcnjhehaa
theorem fareCuts_holds : Rows.FareCutsSaid := fareCuts_of fare_contracts
end Go.Proofs.Ytniffcjcnjhehaa
