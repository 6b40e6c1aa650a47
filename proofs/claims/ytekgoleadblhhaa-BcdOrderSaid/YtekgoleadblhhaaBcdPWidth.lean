/-
  Contract for the landed isWidth. Conditions: none.
-/
import Derived.Test.YtekgoleadblhhaaMem
import Derived.Test.YtekgoleadblhhaaBsRow
import Derived.Test.YtekgoleadblhhaaBcdMath
namespace Go.Proofs.Ytekgoleadblhhaa
set_option linter.unusedVariables false
open Go.ChangeShapes Go.WideShapes Go.ChangeAt Go.RowKit

theorem pwidth_any (n : Int) (b : Bool) (hb : decide (0 ≤ n ∧ n ≤ 18) = b) (w : World) : Calls Try.prog 19 #[.int .i64 n] w fun e w' => e = .returned (.bool b) ∧ w = w' := by
  have HB := Lib.hid hb
  clear hb
  by_cases h0 : ¬ 0 ≤ n
  · have h1 : n < 0 := by omega
    obtain rfl : b = false := by rw [← HB.out]; exact decide_eq_false (by omega)
    clear HB
    go_enter Try.func19, Try.ntmps19
    go_wp2
    go_ret
    exact ⟨rfl, rfl⟩
  have h1 : 0 ≤ n := by omega
  by_cases h2 : n ≤ 18
  · obtain rfl : b = true := by rw [← HB.out]; exact decide_eq_true (by omega)
    clear HB h0
    go_enter Try.func19, Try.ntmps19
    go_wp2
    go_ret
    exact ⟨rfl, rfl⟩
  · obtain rfl : b = false := by rw [← HB.out]; exact decide_eq_false (by omega)
    have h3 : 18 < n := by omega
    clear HB h0
    go_enter Try.func19, Try.ntmps19
    go_wp2
    go_ret
    exact ⟨rfl, rfl⟩
end Go.Proofs.Ytekgoleadblhhaa
