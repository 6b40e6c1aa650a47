/-
  FareBacks: proved of the landed packages fare and line, for all arguments; conditions: none but the statement's own.
-/
import Derived.Test.YtniffcjcnjhehaaFareBacksOf
import Derived.Test.YtniffcjcnjhehaaFarePC
namespace Go.Proofs.Ytniffcjcnjhehaa
theorem fareBacks_holds : Rows.FareBacksSaid := fareBacks_of fare_contracts
end Go.Proofs.Ytniffcjcnjhehaa
