/-
  Contract for the landed Zones at any two numbers. Conditions: none.
-/
import Derived.Test.YtmcdidbcfhgijaaLinePSpan
namespace Go.Proofs.Ytmcdidbcfhgijaa
set_option linter.unusedVariables false
set_option linter.unusedSimpArgs false
open Go.ChangeShapes Go.WideShapes Go.ChangeAt Go.RowKit

theorem pspan_any (a b x y E : Int) (w : World) (hx : zonesL a b = x) (hy : zonesH a b = y) (hE : zonesE a b = E) : Calls Try.prog 25 #[.int .i64 a, .int .i64 b] w fun e w' => e = .returned (.tuple #[.int .i64 x, .int .i64 y, .int .i64 E]) ∧ Below w.heap.size w w' := by
  cases ha : isN a <;> cases hb : isN b
  all_goals
    have h2 : is2 a b = (isN a && isN b) := rfl
    rw [ha, hb] at h2
    have HA := Lib.hid ha
    have HB := Lib.hid hb
    have HX := Lib.hid hx
    have HY := Lib.hid hy
    have HE := Lib.hid hE
    have H2 := Lib.hid h2
    clear ha hb hx hy hE h2
  case true.true =>
    have e0 : E = 0 := by rw [← HE.out, zonesE, H2.out]; rfl
    subst e0
    exact callsIn_wide.1 (span_in 4 (by omega) a b HA.out HB.out x y (by rw [← HX.out, zonesL, H2.out]; rfl) (by rw [← HY.out, zonesH, H2.out]; rfl) w)
  all_goals
    have e0 : E = 1 := by rw [← HE.out, zonesE, H2.out]; rfl
    have e1 : x = 0 := by rw [← HX.out, zonesL, H2.out]; rfl
    have e2 : y = 0 := by rw [← HY.out, zonesH, H2.out]; rfl
    subst e0 e1 e2
    go_enter Try.func25, Try.ntmps25
    go_wp2_with (go_at_call 33; refine (pisn_any _ _ (by first | exact HA.out | exact HB.out) _).mono ?_; rintro e w1 ⟨rfl, rfl⟩)
    go_ret3
    exact ⟨rfl, Below.refl _ _⟩
end Go.Proofs.Ytmcdidbcfhgijaa
