/-
  That a ticket's numbers fit an int.
-/
import Derived.Test.YtaokhkbfiplfmaaTicketBox
namespace Go.Proofs.Ytaokhkbfiplfmaa
set_option linter.unusedVariables false
open Go.ChangeShapes Go.WideShapes Go.ChangeAt Go.RowKit

def InT (t : Tk) : Prop := In64 t.ser ∧ In64 t.kind ∧ In64 t.frm ∧ In64 t.till ∧ In64 t.cls ∧ In64 t.card ∧ In64 t.seat ∧ In64 t.day ∧ In64 t.days ∧ In64 t.uses ∧ In64 t.epoch
end Go.Proofs.Ytaokhkbfiplfmaa
