/-
  Contract for the reference's Is of stations. Conditions: none.
-/
import Derived.Test.YtaokhkbfiplfmaaMem
import Derived.Test.YtaokhkbfiplfmaaLineMath
namespace Go.Proofs.Ytaokhkbfiplfmaa
set_option linter.unusedVariables false
open Go.ChangeShapes Go.WideShapes Go.ChangeAt Go.RowKit

theorem refisn_any (s : Int) (b : Bool) (hb : isN s = b) (w : World) : Calls Try.prog 22 #[.int .i64 s] w fun e w' => e = .returned (.bool b) ∧ w' = w := by
  have HB := Lib.hid hb
  clear hb
  cases h0 : decide (0 ≤ s) <;> cases h1 : decide (s ≤ 39)
  all_goals
    have H0 := Lib.hid h0
    have H1 := Lib.hid h1
    go_enter Try.func22, Try.ntmps22
    go_wp2
    go_ret
    refine ⟨congrArg Ending.returned (congrArg Value.bool ?_), rfl⟩
    rw [← HB.out, isN, H0.out, H1.out]
    rfl
end Go.Proofs.Ytaokhkbfiplfmaa
