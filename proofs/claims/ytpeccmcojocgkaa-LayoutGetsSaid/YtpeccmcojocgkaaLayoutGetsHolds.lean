/-
  The law LayoutGets of the landed package layout. Conditions: none.
-/
import Derived.Test.YtpeccmcojocgkaaLayoutGetsOf
import Derived.Test.YtpeccmcojocgkaaLaid
namespace Go.Proofs.Ytpeccmcojocgkaa
set_option linter.unusedVariables false
open Go.ChangeShapes Go.WideShapes Go.ChangeAt Go.RowKit

theorem layoutGets_holds : Rows.LayoutGetsSaid := layoutGets_of laid_any
end Go.Proofs.Ytpeccmcojocgkaa
