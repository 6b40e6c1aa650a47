/-
  No bytes at all, as a slice that is nil. Conditions: none.
-/
import Derived.Test.YtaldpioahnbkgaaBase
namespace Go.Proofs.Ytaldpioahnbkgaa
set_option linter.unusedVariables false
open Go.ChangeShapes Go.WideShapes Go.ChangeAt Go.RowKit

theorem Bs.empty (w : World) (B : Nat) : Bs w B [] none 0 := ⟨by intro k u hu; simp [U8] at hu, fun _ => rfl, by simp, by omega, by simp⟩

end Go.Proofs.Ytaldpioahnbkgaa
