/-
  The law LayoutPuts of the landed package layout. Conditions: none.
-/
import Derived.Test.YtpeccmcojocgkaaLayoutPutsOf
import Derived.Test.YtpeccmcojocgkaaLaid
namespace Go.Proofs.Ytpeccmcojocgkaa
set_option linter.unusedVariables false
open Go.ChangeShapes Go.WideShapes Go.ChangeAt Go.RowKit

theorem layoutPuts_holds : Rows.LayoutPutsSaid := layoutPuts_of laid_any
end Go.Proofs.Ytpeccmcojocgkaa
