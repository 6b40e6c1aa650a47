/-
  The law BcdOrder of the landed package bcd. Conditions: none.
-/
import Derived.Test.YtekgoleadblhhaaBcdOrderOf
namespace Go.Proofs.Ytekgoleadblhhaa
set_option linter.unusedVariables false
open Go.ChangeShapes Go.WideShapes Go.ChangeAt Go.RowKit

theorem bcdOrder_holds : Rows.BcdOrderSaid := bcdOrder_of trivial
end Go.Proofs.Ytekgoleadblhhaa
