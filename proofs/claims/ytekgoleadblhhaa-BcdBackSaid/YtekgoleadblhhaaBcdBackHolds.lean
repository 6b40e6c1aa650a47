/-
  The law BcdBack of the landed package bcd. Conditions: none.
-/
import Derived.Test.YtekgoleadblhhaaBcdBackOf
namespace Go.Proofs.Ytekgoleadblhhaa
set_option linter.unusedVariables false
open Go.ChangeShapes Go.WideShapes Go.ChangeAt Go.RowKit

theorem bcdBack_holds : Rows.BcdBackSaid := bcdBack_of trivial
end Go.Proofs.Ytekgoleadblhhaa
