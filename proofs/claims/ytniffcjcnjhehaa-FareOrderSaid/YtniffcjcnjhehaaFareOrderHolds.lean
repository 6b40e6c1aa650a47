/-
  FareOrder: proved of the landed packages fare and line, for all arguments; conditions: none but the statement's own.
-/
import Derived.Test.YtniffcjcnjhehaaFareOrderOf
import Derived.Test.YtniffcjcnjhehaaFarePC
namespace Go.Proofs.Ytniffcjcnjhehaa
theorem fareOrder_holds : Rows.FareOrderSaid := fareOrder_of fare_contracts
end Go.Proofs.Ytniffcjcnjhehaa
