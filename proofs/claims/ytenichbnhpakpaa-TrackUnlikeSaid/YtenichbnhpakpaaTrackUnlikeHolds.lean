/-
  The law TrackUnlike of the landed package track. Conditions: none.
-/
import Derived.Test.YtenichbnhpakpaaTrackUnlikeOf
import Derived.Test.YtenichbnhpakpaaTrackPC
namespace Go.Proofs.Ytenichbnhpakpaa
set_option linter.unusedVariables false
open Go.ChangeShapes Go.WideShapes Go.ChangeAt Go.RowKit

theorem trackUnlike_holds : Rows.TrackUnlikeSaid := trackUnlike_of track_contracts
end Go.Proofs.Ytenichbnhpakpaa
