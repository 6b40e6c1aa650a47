/-
  The law TrackPacks of the landed package track. Conditions: none.
-/
import Derived.Test.YtenichbnhpakpaaTrackPacksOf
import Derived.Test.YtenichbnhpakpaaTrackPC
namespace Go.Proofs.Ytenichbnhpakpaa
set_option linter.unusedVariables false
open Go.ChangeShapes Go.WideShapes Go.ChangeAt Go.RowKit

theorem trackPacks_holds : Rows.TrackPacksSaid := trackPacks_of track_contracts
end Go.Proofs.Ytenichbnhpakpaa
