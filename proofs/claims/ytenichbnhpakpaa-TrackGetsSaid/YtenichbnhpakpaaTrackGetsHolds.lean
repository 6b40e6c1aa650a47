/-
  The law TrackGets of the landed package track. Conditions: none.
-/
import Derived.Test.YtenichbnhpakpaaTrackGetsOf
import Derived.Test.YtenichbnhpakpaaTrackPC
namespace Go.Proofs.Ytenichbnhpakpaa
set_option linter.unusedVariables false
open Go.ChangeShapes Go.WideShapes Go.ChangeAt Go.RowKit

theorem trackGets_holds : Rows.TrackGetsSaid := trackGets_of track_contracts
end Go.Proofs.Ytenichbnhpakpaa
