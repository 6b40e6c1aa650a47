/-
  The law LayoutUnlike of the landed package layout. Conditions: none.
-/
import Derived.Test.YtpeccmcojocgkaaLayoutUnlikeOf
import Derived.Test.YtpeccmcojocgkaaLaid
namespace Go.Proofs.Ytpeccmcojocgkaa
set_option linter.unusedVariables false
open Go.ChangeShapes Go.WideShapes Go.ChangeAt Go.RowKit

theorem layoutUnlike_holds : Rows.LayoutUnlikeSaid := layoutUnlike_of laid_any
end Go.Proofs.Ytpeccmcojocgkaa
