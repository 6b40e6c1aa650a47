/-
  Contract for the landed Between. Conditions: none.
-/
import Derived.Test.YtaokhkbfiplfmaaLinePWay
namespace Go.Proofs.Ytaokhkbfiplfmaa
set_option linter.unusedVariables false
set_option linter.unusedSimpArgs false
open Go.ChangeShapes Go.WideShapes Go.ChangeAt Go.RowKit

theorem between_mm (a b s : Int) : between a b s = (decide (mn a b ≤ s) && decide (s ≤ mx a b)) := by
  rw [Bool.eq_iff_iff, between_iff]
  unfold mn mx
  simp
  split <;> split <;> omega
set_option maxHeartbeats 1600000 in
theorem pbetween_any (a b s : Int) (v : Bool) (E : Int) (hv : betV a b s = v) (hE : betE a b s = E) (w : World) : Calls Try.prog 32 #[.int .i64 a, .int .i64 b, .int .i64 s] w fun e w' => e = .returned (.tuple #[.bool v, .int .i64 E]) ∧ w' = w := by
  cases ha : isN a <;> cases hb : isN b <;> cases hs : isN s
  all_goals
    have h3 : is3 a b s = (isN a && (isN b && isN s)) := rfl
    rw [ha, hb, hs] at h3
    have HA := Lib.hid ha
    have HB := Lib.hid hb
    have HS := Lib.hid hs
    have HV := Lib.hid hv
    have HE := Lib.hid hE
    have H3 := Lib.hid h3
    clear ha hb hs hv hE h3
  case true.true.true =>
    have e2 : E = 0 := by rw [← HE.out, betE, H3.out]; rfl
    have e1 : v = between a b s := by rw [← HV.out, betV, H3.out]; rfl
    rw [between_mm] at e1
    subst e2
    obtain ⟨lo, hlo⟩ : ∃ lo, lo = mn a b := ⟨_, rfl⟩
    obtain ⟨hi, hhi⟩ : ∃ hi, hi = mx a b := ⟨_, rfl⟩
    rw [← hlo, ← hhi] at e1
    replace hlo : (if b < a then b else a) = lo := hlo.symm
    replace hhi : (if a < b then b else a) = hi := hhi.symm
    cases q1 : decide (lo ≤ s) <;> cases q2 : decide (s ≤ hi)
    all_goals
      rw [q1, q2] at e1
      have HV2 := Lib.hid e1
      clear e1
      go_enter Try.func32, Try.ntmps32
      go_wp2_with (go_at_call 31; refine (pisn_any _ _ (by first | exact HA.out | exact HB.out | exact HS.out) _).mono ?_; rintro e w1 ⟨rfl, rfl⟩)
      go_ret2
      exact ⟨by rw [HV2.out]; rfl, rfl⟩
  all_goals
    have e2 : E = 1 := by rw [← HE.out, betE, H3.out]; rfl
    have e1 : v = false := by rw [← HV.out, betV, H3.out]; rfl
    subst e1 e2
    go_enter Try.func32, Try.ntmps32
    go_wp2_with (go_at_call 31; refine (pisn_any _ _ (by first | exact HA.out | exact HB.out | exact HS.out) _).mono ?_; rintro e w1 ⟨rfl, rfl⟩)
    go_ret2
    exact ⟨rfl, rfl⟩
end Go.Proofs.Ytaokhkbfiplfmaa
