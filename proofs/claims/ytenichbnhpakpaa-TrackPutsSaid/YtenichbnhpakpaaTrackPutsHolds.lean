/-
  The law TrackPuts of the landed package track. Conditions: none.
-/
import Derived.Test.YtenichbnhpakpaaTrackPutsOf
import Derived.Test.YtenichbnhpakpaaTrackPC
namespace Go.Proofs.Ytenichbnhpakpaa
set_option linter.unusedVariables false
open Go.ChangeShapes Go.WideShapes Go.ChangeAt Go.RowKit

theorem trackPuts_holds : Rows.TrackPutsSaid := trackPuts_of track_contracts
end Go.Proofs.Ytenichbnhpakpaa
