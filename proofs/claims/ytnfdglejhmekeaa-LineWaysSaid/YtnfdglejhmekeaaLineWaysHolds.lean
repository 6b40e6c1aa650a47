/-
  LineWays: proved of the landed package line, for all arguments; conditions: none but the statement's own.
-/
import Derived.Test.YtnfdglejhmekeaaLineWaysOf
import Derived.Test.YtnfdglejhmekeaaLinePC
namespace Go.Proofs.Ytnfdglejhmekeaa
theorem lineWays_holds : Rows.LineWaysSaid := lineWays_of line_contracts
end Go.Proofs.Ytnfdglejhmekeaa
