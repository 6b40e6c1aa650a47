/-
  LineZones: proved of the landed package line, for all arguments; conditions: none but the statement's own.
-/
import Derived.Test.YtnfdglejhmekeaaLineZonesOf
import Derived.Test.YtnfdglejhmekeaaLinePC
namespace Go.Proofs.Ytnfdglejhmekeaa
theorem lineZones_holds : Rows.LineZonesSaid := lineZones_of line_contracts
end Go.Proofs.Ytnfdglejhmekeaa
