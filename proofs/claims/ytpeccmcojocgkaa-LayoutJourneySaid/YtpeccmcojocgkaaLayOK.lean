/-
  What the laws ask of their constant check. Conditions: none.
-/
import Derived.Test.YtpeccmcojocgkaaLayC
namespace Go.Proofs.Ytpeccmcojocgkaa
set_option linter.unusedVariables false
open Go.ChangeShapes Go.WideShapes Go.ChangeAt Go.RowKit

def LaidOK : Prop := ∀ w : World, Calls Try.prog 12 #[] w fun e w' => e = .returned (.bool true) ∧ Below w.heap.size w w'
end Go.Proofs.Ytpeccmcojocgkaa
