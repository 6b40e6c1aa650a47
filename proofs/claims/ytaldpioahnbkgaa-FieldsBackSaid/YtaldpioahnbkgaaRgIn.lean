/-
  The fifteen numbers of a reading; that they fit an int.
-/
import Derived.Test.YtaldpioahnbkgaaRgBox
namespace Go.Proofs.Ytaldpioahnbkgaa
set_option linter.unusedVariables false
open Go.ChangeShapes Go.WideShapes Go.ChangeAt Go.RowKit

/-- The fifteen numbers of a reading. -/
def rgL (r : Rg) : List Int := [r.t.ser, r.t.kind, r.t.frm, r.t.till, r.t.cls, r.t.card, r.t.seat, r.t.day, r.t.days, r.t.uses, r.t.epoch, r.key, r.left, r.inn, r.ver]
def InR (r : Rg) : Prop := ∀ x ∈ rgL r, In64 x
end Go.Proofs.Ytaldpioahnbkgaa
