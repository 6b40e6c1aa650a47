/-
  FareLess: proved of the landed packages fare and line, for all arguments; conditions: none but the statement's own.
-/
import Derived.Test.YtniffcjcnjhehaaFareLessOf
import Derived.Test.YtniffcjcnjhehaaFarePC
namespace Go.Proofs.Ytniffcjcnjhehaa
theorem fareLess_holds : Rows.FareLessSaid := fareLess_of fare_contracts
end Go.Proofs.Ytniffcjcnjhehaa
