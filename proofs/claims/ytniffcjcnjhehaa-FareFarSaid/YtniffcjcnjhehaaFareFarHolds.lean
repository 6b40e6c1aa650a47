/-
  FareFar: proved of the landed packages fare and line, for all arguments; conditions: none but the statement's own.
-/
import Derived.Test.YtniffcjcnjhehaaFareFarOf
import Derived.Test.YtniffcjcnjhehaaFarePC
namespace Go.Proofs.Ytniffcjcnjhehaa
theorem fareFar_holds : Rows.FareFarSaid := fareFar_of fare_contracts
end Go.Proofs.Ytniffcjcnjhehaa
