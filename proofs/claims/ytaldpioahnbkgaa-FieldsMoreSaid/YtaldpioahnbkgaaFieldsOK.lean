/-
  What the laws ask of their constant check of layer 18. Conditions: none.
-/
import Derived.Test.YtaldpioahnbkgaaFieldsPPut
namespace Go.Proofs.Ytaldpioahnbkgaa
set_option linter.unusedVariables false
open Go.ChangeShapes Go.WideShapes Go.ChangeAt Go.RowKit

def ToldOK : Prop := ∀ w : World, Calls Try.prog 12 #[] w fun e w' => e = .returned (.bool true) ∧ Below w.heap.size w w'
end Go.Proofs.Ytaldpioahnbkgaa
