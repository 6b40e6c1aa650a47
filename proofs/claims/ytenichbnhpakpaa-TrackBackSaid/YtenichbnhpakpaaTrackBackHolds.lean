/-
  The law TrackBack of the landed package track. Conditions: none.
-/
import Derived.Test.YtenichbnhpakpaaTrackBackOf
import Derived.Test.YtenichbnhpakpaaTrackPC
namespace Go.Proofs.Ytenichbnhpakpaa
set_option linter.unusedVariables false
open Go.ChangeShapes Go.WideShapes Go.ChangeAt Go.RowKit

theorem trackBack_holds : Rows.TrackBackSaid := trackBack_of track_contracts
end Go.Proofs.Ytenichbnhpakpaa
