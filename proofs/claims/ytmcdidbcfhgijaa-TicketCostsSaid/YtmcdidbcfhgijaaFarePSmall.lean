/-
  Contracts for the landed Base and isPrice. Conditions: none.
-/
import Derived.Test.YtmcdidbcfhgijaaFareMath
import Derived.Test.YtmcdidbcfhgijaaMem
import Derived.Test.YtmcdidbcfhgijaaIn64
namespace Go.Proofs.Ytmcdidbcfhgijaa
set_option linter.unusedVariables false
open Go.ChangeShapes Go.WideShapes Go.ChangeAt Go.RowKit

def isP (p : Int) : Bool := decide (0 ≤ p) && decide (p ≤ 1000000000)
theorem pprice_any (p : Int) (b : Bool) (hb : isP p = b) (w : World) : Calls Try.prog 35 #[.int .i64 p] w fun e w' => e = .returned (.bool b) ∧ w' = w := by
  have HB := Lib.hid hb
  clear hb
  cases h0 : decide (0 ≤ p) <;> cases h1 : decide (p ≤ 1000000000)
  all_goals
    have H0 := Lib.hid h0
    have H1 := Lib.hid h1
    go_enter Try.func35, Try.ntmps35
    go_wp2
    go_ret
    refine ⟨congrArg Ending.returned (congrArg Value.bool ?_), rfl⟩
    rw [← HB.out, isP, H0.out, H1.out]
    rfl
theorem pbase_any (z v E : Int) (hv : baseV z = v) (hE : baseE z = E) (w : World) : Calls Try.prog 26 #[.int .i64 z] w fun e w' => e = .returned (.tuple #[.int .i64 v, .int .i64 E]) ∧ Below w.heap.size w w' := by
  cases h : okB z with
  | true =>
    have hz := (okB_iff z).1 h
    have e1 : v = 180 + 95 * (z - 1) := by rw [← hv, baseV, h]; rfl
    have e2 : E = 0 := by rw [← hE, baseE, h]; rfl
    subst e1 e2
    have q1 : decide (z < 1) = false := decide_eq_false (by omega)
    have q2 : decide (6 < z) = false := decide_eq_false (by omega)
    have w1 : IntKind.i64.wrap (z - 1) = z - 1 := IntWalk.i64_in _ (by omega)
    have w2 : IntKind.i64.wrap (95 * (z - 1)) = 95 * (z - 1) := IntWalk.i64_in _ (by omega)
    have w3 : IntKind.i64.wrap (180 + 95 * (z - 1)) = 180 + 95 * (z - 1) := IntWalk.i64_in _ (by omega)
    clear h hz hv hE
    go_enter Try.func26, Try.ntmps26
    go_wp2
    go_ret2
    exact ⟨rfl, Below.refl _ _⟩
  | false =>
    have e1 : v = 0 := by rw [← hv, baseV, h]; rfl
    have e2 : E = 1 := by rw [← hE, baseE, h]; rfl
    subst e1 e2
    have hno : z < 1 ∨ (¬ z < 1 ∧ 6 < z) := by
      have : ¬ (1 ≤ z ∧ z ≤ 6) := fun hh => by rw [(okB_iff z).2 hh] at h; cases h
      omega
    clear h hv hE
    rcases hno with h | ⟨h, h2⟩
    all_goals
      go_enter Try.func26, Try.ntmps26
      go_wp2
      go_ret2
      exact ⟨rfl, Below.refl _ _⟩
end Go.Proofs.Ytmcdidbcfhgijaa
