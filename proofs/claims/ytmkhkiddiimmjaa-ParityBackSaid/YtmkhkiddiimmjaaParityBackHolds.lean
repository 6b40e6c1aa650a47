/-
  The law ParityBack about the landed code. Conditions: none.
-/
import Derived.Test.YtmkhkiddiimmjaaParityPC
import Derived.Test.YtmkhkiddiimmjaaParityBackOf
namespace Go.Proofs.Ytmkhkiddiimmjaa
set_option linter.unusedVariables false
open Go.ChangeShapes Go.WideShapes Go.ChangeAt Go.RowKit

theorem parityBack_holds : Rows.ParityBackSaid := parityBack_of parity_contracts
end Go.Proofs.Ytmkhkiddiimmjaa
