/-
  The law BcdJoins of the landed package bcd. Conditions: none.
-/
import Derived.Test.YtekgoleadblhhaaBcdJoinsOf
namespace Go.Proofs.Ytekgoleadblhhaa
set_option linter.unusedVariables false
open Go.ChangeShapes Go.WideShapes Go.ChangeAt Go.RowKit

theorem bcdJoins_holds : Rows.BcdJoinsSaid := bcdJoins_of trivial
end Go.Proofs.Ytekgoleadblhhaa
