/-
  The law LayoutBack of the landed package layout. Conditions: none.
-/
import Derived.Test.YtpeccmcojocgkaaLayoutBackOf
import Derived.Test.YtpeccmcojocgkaaLaid
namespace Go.Proofs.Ytpeccmcojocgkaa
set_option linter.unusedVariables false
open Go.ChangeShapes Go.WideShapes Go.ChangeAt Go.RowKit

theorem layoutBack_holds : Rows.LayoutBackSaid := layoutBack_of laid_any
end Go.Proofs.Ytpeccmcojocgkaa
