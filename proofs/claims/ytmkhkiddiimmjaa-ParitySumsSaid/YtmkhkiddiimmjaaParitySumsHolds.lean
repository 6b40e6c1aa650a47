/-
  The law ParitySums about the landed code. Conditions: none.
-/
import Derived.Test.YtmkhkiddiimmjaaParityPC
import Derived.Test.YtmkhkiddiimmjaaParitySumsOf
namespace Go.Proofs.Ytmkhkiddiimmjaa
set_option linter.unusedVariables false
open Go.ChangeShapes Go.WideShapes Go.ChangeAt Go.RowKit

theorem paritySums_holds : Rows.ParitySumsSaid := paritySums_of parity_contracts
end Go.Proofs.Ytmkhkiddiimmjaa
