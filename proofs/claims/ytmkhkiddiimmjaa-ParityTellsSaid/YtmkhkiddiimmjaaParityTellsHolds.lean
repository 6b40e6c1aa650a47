/-
  The law ParityTells about the landed code. Conditions: none.
-/
import Derived.Test.YtmkhkiddiimmjaaParityPC
import Derived.Test.YtmkhkiddiimmjaaParityTellsOf
namespace Go.Proofs.Ytmkhkiddiimmjaa
set_option linter.unusedVariables false
open Go.ChangeShapes Go.WideShapes Go.ChangeAt Go.RowKit

theorem parityTells_holds : Rows.ParityTellsSaid := parityTells_of parity_contracts
end Go.Proofs.Ytmkhkiddiimmjaa
