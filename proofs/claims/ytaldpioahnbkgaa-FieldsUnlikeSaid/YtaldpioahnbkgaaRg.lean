/-
  What a stripe or a barcode says: a ticket, a key's number, a journey, a version. No program here.
-/
import Derived.Test.YtaldpioahnbkgaaTicketM
namespace Go.Proofs.Ytaldpioahnbkgaa
set_option linter.unusedVariables false

/-- What a stripe says: the ticket, the key's number, the journey, the version. -/
structure Rg where
  t : Tk
  key : Int
  left : Int
  inn : Int
  ver : Int
def zeroR : Rg := ⟨⟨0, 0, 0, 0, 0, 0, 0, 0, 0, 0, 0⟩, 0, 0, 0, 0⟩
end Go.Proofs.Ytaldpioahnbkgaa
