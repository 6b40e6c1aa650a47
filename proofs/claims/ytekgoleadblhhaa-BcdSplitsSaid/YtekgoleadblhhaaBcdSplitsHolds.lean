/-
  The law BcdSplits of the landed package bcd. Conditions: none.
-/
import Derived.Test.YtekgoleadblhhaaBcdSplitsOf
namespace Go.Proofs.Ytekgoleadblhhaa
set_option linter.unusedVariables false
open Go.ChangeShapes Go.WideShapes Go.ChangeAt Go.RowKit

theorem bcdSplits_holds : Rows.BcdSplitsSaid := bcdSplits_of trivial
end Go.Proofs.Ytekgoleadblhhaa
