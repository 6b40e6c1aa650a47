/-
  LineStations: proved of the landed package line, for all arguments; conditions: none but the statement's own.
-/
import Derived.Test.YtnfdglejhmekeaaLineStationsOf
import Derived.Test.YtnfdglejhmekeaaLinePC
namespace Go.Proofs.Ytnfdglejhmekeaa
theorem lineStations_holds : Rows.LineStationsSaid := lineStations_of line_contracts
end Go.Proofs.Ytnfdglejhmekeaa
