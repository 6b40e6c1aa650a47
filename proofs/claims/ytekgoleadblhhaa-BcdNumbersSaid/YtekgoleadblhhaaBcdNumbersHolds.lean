/-
  The law BcdNumbers of the landed package bcd. Conditions: none.
-/
import Derived.Test.YtekgoleadblhhaaBcdNumbersOf
namespace Go.Proofs.Ytekgoleadblhhaa
set_option linter.unusedVariables false
open Go.ChangeShapes Go.WideShapes Go.ChangeAt Go.RowKit

theorem bcdNumbers_holds : Rows.BcdNumbersSaid := bcdNumbers_of trivial
end Go.Proofs.Ytekgoleadblhhaa
