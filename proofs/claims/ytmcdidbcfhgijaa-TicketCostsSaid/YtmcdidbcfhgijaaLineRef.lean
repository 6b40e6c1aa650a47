/-
  Contracts for the reference's Is, Zone, Between and Zones. Conditions: none.
-/
import Derived.Test.YtmcdidbcfhgijaaMem
import Derived.Test.YtmcdidbcfhgijaaLineMath
namespace Go.Proofs.Ytmcdidbcfhgijaa
set_option linter.unusedVariables false
open Go.ChangeShapes Go.WideShapes Go.ChangeAt Go.RowKit

theorem refisn_any (s : Int) (b : Bool) (hb : isN s = b) (w : World) : Calls Try.prog 31 #[.int .i64 s] w fun e w' => e = .returned (.bool b) ∧ w' = w := by
  have HB := Lib.hid hb
  clear hb
  cases h0 : decide (0 ≤ s) <;> cases h1 : decide (s ≤ 39)
  all_goals
    have H0 := Lib.hid h0
    have H1 := Lib.hid h1
    go_enter Try.func31, Try.ntmps31
    go_wp2
    go_ret
    refine ⟨congrArg Ending.returned (congrArg Value.bool ?_), rfl⟩
    rw [← HB.out, isN, H0.out, H1.out]
    rfl
theorem refzone_any (s z E : Int) (hz : zoneV s = z) (hE : zoneE s = E) (w : World) : Calls Try.prog 18 #[.int .i64 s] w fun e w' => e = .returned (.tuple #[.int .i64 z, .int .i64 E]) ∧ w' = w := by
  cases h : isN s with
  | false =>
    have e1 : z = 0 := by rw [← hz, zoneV, h]; rfl
    have e2 : E = 1 := by rw [← hE, zoneE, h]; rfl
    subst e1 e2
    have HB := Lib.hid h
    clear hz hE h
    go_enter Try.func18, Try.ntmps18
    go_wp2_with (go_at_call 31; refine (refisn_any s false HB.out _).mono ?_; rintro e w1 ⟨rfl, rfl⟩)
    go_ret2
    exact ⟨rfl, rfl⟩
  | true =>
    have hs := (isN_iff s).1 h
    have e2 : E = 0 := by rw [← hE, zoneE, h]; rfl
    subst e2
    have HB := Lib.hid h
    by_cases h20 : s < 20
    · have e1 : z = 1 + (20 - s) / 4 := by rw [← hz, zoneV, h, zn, if_pos h20]; rfl
      subst e1
      have q : (20 - s).tdiv 4 = (20 - s) / 4 := Int.tdiv_eq_ediv_of_nonneg (by omega)
      have w1 : IntKind.i64.wrap (20 - s) = 20 - s := IntWalk.i64_in _ (by omega)
      have w2 : IntKind.i64.wrap ((20 - s) / 4) = (20 - s) / 4 := IntWalk.i64_in _ (by omega)
      have w3 : IntKind.i64.wrap (1 + (20 - s) / 4) = 1 + (20 - s) / 4 := IntWalk.i64_in _ (by omega)
      clear hz hE h hs
      go_enter Try.func18, Try.ntmps18
      go_wp2_with (go_at_call 31; refine (refisn_any s true HB.out _).mono ?_; rintro e w1 ⟨rfl, rfl⟩)
      go_ret2
      exact ⟨rfl, rfl⟩
    · have e1 : z = 1 + (s - 20) / 4 := by rw [← hz, zoneV, h, zn, if_neg h20]; rfl
      subst e1
      have q : (s - 20).tdiv 4 = (s - 20) / 4 := Int.tdiv_eq_ediv_of_nonneg (by omega)
      have w1 : IntKind.i64.wrap (s - 20) = s - 20 := IntWalk.i64_in _ (by omega)
      have w2 : IntKind.i64.wrap ((s - 20) / 4) = (s - 20) / 4 := IntWalk.i64_in _ (by omega)
      have w3 : IntKind.i64.wrap (1 + (s - 20) / 4) = 1 + (s - 20) / 4 := IntWalk.i64_in _ (by omega)
      clear hz hE h hs
      go_enter Try.func18, Try.ntmps18
      go_wp2_with (go_at_call 31; refine (refisn_any s true HB.out _).mono ?_; rintro e w1 ⟨rfl, rfl⟩)
      go_ret2
      exact ⟨rfl, rfl⟩
set_option maxHeartbeats 1600000 in
theorem refbetween_any (a b s : Int) (v : Bool) (E : Int) (hv : betV a b s = v) (hE : betE a b s = E) (w : World) : Calls Try.prog 19 #[.int .i64 a, .int .i64 b, .int .i64 s] w fun e w' => e = .returned (.tuple #[.bool v, .int .i64 E]) ∧ w' = w := by
  cases ha : isN a <;> cases hb : isN b <;> cases hs : isN s
  all_goals
    have h3 : is3 a b s = (isN a && (isN b && isN s)) := rfl
    rw [ha, hb, hs] at h3
    have HA := Lib.hid ha
    have HB := Lib.hid hb
    have HS := Lib.hid hs
    have HV := Lib.hid hv
    have HE := Lib.hid hE
    have H3 := Lib.hid h3
    clear ha hb hs hv hE h3
  case true.true.true =>
    have e2 : E = 0 := by rw [← HE.out, betE, H3.out]; rfl
    have e1 : v = between a b s := by rw [← HV.out, betV, H3.out]; rfl
    subst e2
    cases q1 : decide (a ≤ s) <;> cases q2 : decide (s ≤ b) <;> cases q3 : decide (b ≤ s) <;> cases q4 : decide (s ≤ a)
    all_goals
      have hv : v = ((decide (a ≤ s) && decide (s ≤ b)) || (decide (b ≤ s) && decide (s ≤ a))) := e1
      rw [q1, q2, q3, q4] at hv
      have HV2 := Lib.hid hv
      clear hv e1
      go_enter Try.func19, Try.ntmps19
      go_wp2_with (go_at_call 31; refine (refisn_any _ _ (by first | exact HA.out | exact HB.out | exact HS.out) _).mono ?_; rintro e w1 ⟨rfl, rfl⟩)
      go_ret2
      exact ⟨by rw [HV2.out]; rfl, rfl⟩
  all_goals
    have e2 : E = 1 := by rw [← HE.out, betE, H3.out]; rfl
    have e1 : v = false := by rw [← HV.out, betV, H3.out]; rfl
    subst e1 e2
    go_enter Try.func19, Try.ntmps19
    go_wp2_with (go_at_call 31; refine (refisn_any _ _ (by first | exact HA.out | exact HB.out | exact HS.out) _).mono ?_; rintro e w1 ⟨rfl, rfl⟩)
    go_ret2
    exact ⟨rfl, rfl⟩
end Go.Proofs.Ytmcdidbcfhgijaa
