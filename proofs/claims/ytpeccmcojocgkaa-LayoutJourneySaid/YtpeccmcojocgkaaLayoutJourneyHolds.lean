/-
  The law LayoutJourney of the landed package layout. Conditions: none.
-/
import Derived.Test.YtpeccmcojocgkaaLayoutJourneyOf
import Derived.Test.YtpeccmcojocgkaaLaid
namespace Go.Proofs.Ytpeccmcojocgkaa
set_option linter.unusedVariables false
open Go.ChangeShapes Go.WideShapes Go.ChangeAt Go.RowKit

theorem layoutJourney_holds : Rows.LayoutJourneySaid := layoutJourney_of laid_any
end Go.Proofs.Ytpeccmcojocgkaa
