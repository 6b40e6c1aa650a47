/-
  The law ParityChars about the landed code. Conditions: none.
-/
import Derived.Test.YtmkhkiddiimmjaaParityPC
import Derived.Test.YtmkhkiddiimmjaaParityCharsOf
namespace Go.Proofs.Ytmkhkiddiimmjaa
set_option linter.unusedVariables false
open Go.ChangeShapes Go.WideShapes Go.ChangeAt Go.RowKit

theorem parityChars_holds : Rows.ParityCharsSaid := parityChars_of parity_contracts
end Go.Proofs.Ytmkhkiddiimmjaa
