/-
  LineTells: proved of the landed package line, for all arguments; conditions: none but the statement's own.
-/
import Derived.Test.YtnfdglejhmekeaaLineTellsOf
import Derived.Test.YtnfdglejhmekeaaLinePC
namespace Go.Proofs.Ytnfdglejhmekeaa
theorem lineTells_holds : Rows.LineTellsSaid := lineTells_of line_contracts
end Go.Proofs.Ytnfdglejhmekeaa
