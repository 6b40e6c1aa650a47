/-
  The law ParityFlips about the landed code. Conditions: none.
-/
import Derived.Test.YtmkhkiddiimmjaaParityPC
import Derived.Test.YtmkhkiddiimmjaaParityFlipsOf
namespace Go.Proofs.Ytmkhkiddiimmjaa
set_option linter.unusedVariables false
open Go.ChangeShapes Go.WideShapes Go.ChangeAt Go.RowKit

theorem parityFlips_holds : Rows.ParityFlipsSaid := parityFlips_of parity_contracts
end Go.Proofs.Ytmkhkiddiimmjaa
