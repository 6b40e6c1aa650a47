/-
  LineNear: proved of the landed package line, for all arguments; conditions: none but the statement's own.
-/
import Derived.Test.YtnfdglejhmekeaaLineNearOf
import Derived.Test.YtnfdglejhmekeaaLinePC
namespace Go.Proofs.Ytnfdglejhmekeaa
theorem lineNear_holds : Rows.LineNearSaid := lineNear_of line_contracts
end Go.Proofs.Ytnfdglejhmekeaa
