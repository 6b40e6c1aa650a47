/-
  Contracts for the reference's Base, Cut, Single and Back. Conditions: none.
-/
import Derived.Test.YtniffcjcnjhehaaLineRefZones
import Derived.Test.YtniffcjcnjhehaaFareMath
namespace Go.Proofs.Ytniffcjcnjhehaa
set_option linter.unusedVariables false
open Go.ChangeShapes Go.WideShapes Go.ChangeAt Go.RowKit

theorem refbase_any (z v E : Int) (hv : baseV z = v) (hE : baseE z = E) (w : World) : Calls Try.prog 10 #[.int .i64 z] w fun e w' => e = .returned (.tuple #[.int .i64 v, .int .i64 E]) ∧ Below w.heap.size w w' := by
  cases h : okB z with
  | true =>
    have hz := (okB_iff z).1 h
    have e1 : v = 180 + 95 * (z - 1) := by rw [← hv, baseV, h]; rfl
    have e2 : E = 0 := by rw [← hE, baseE, h]; rfl
    subst e1 e2
    have q1 : decide (z < 1) = false := decide_eq_false (by omega)
    have q2 : decide (6 < z) = false := decide_eq_false (by omega)
    have w1 : IntKind.i64.wrap (z - 1) = z - 1 := IntWalk.i64_in _ (by omega)
    have w2 : IntKind.i64.wrap (95 * (z - 1)) = 95 * (z - 1) := IntWalk.i64_in _ (by omega)
    have w3 : IntKind.i64.wrap (180 + 95 * (z - 1)) = 180 + 95 * (z - 1) := IntWalk.i64_in _ (by omega)
    clear h hz hv hE
    go_enter Try.func10, Try.ntmps10
    go_wp2
    go_ret2
    exact ⟨rfl, Below.refl _ _⟩
  | false =>
    have e1 : v = 0 := by rw [← hv, baseV, h]; rfl
    have e2 : E = 1 := by rw [← hE, baseE, h]; rfl
    subst e1 e2
    have hno : z < 1 ∨ (¬ z < 1 ∧ 6 < z) := by
      have : ¬ (1 ≤ z ∧ z ≤ 6) := fun hh => by rw [(okB_iff z).2 hh] at h; cases h
      omega
    clear h hv hE
    rcases hno with h | ⟨h, h2⟩
    all_goals
      go_enter Try.func10, Try.ntmps10
      go_wp2
      go_ret2
      exact ⟨rfl, Below.refl _ _⟩
set_option maxRecDepth 20000 in
set_option maxHeartbeats 800000 in
theorem refcut_any (p c v E : Int) (hv : cutV p c = v) (hE : cutE p c = E) (w : World) : Calls Try.prog 12 #[.int .i64 p, .int .i64 c] w fun e w' => e = .returned (.tuple #[.int .i64 v, .int .i64 E]) ∧ Below w.heap.size w w' := by
  cases h : okC p c with
  | true =>
    have hz := (okC_iff p c).1 h
    have e1 : v = cutN p c := by rw [← hv, cutV, h]; rfl
    have e2 : E = 0 := by rw [← hE, cutE, h]; rfl
    subst e2
    have HV := Lib.hid e1
    have q1 : decide (p < 0) = false := decide_eq_false (by omega)
    have q2 : decide (1000000000 < p) = false := decide_eq_false (by omega)
    have d3 : p.tdiv 3 = p / 3 := Int.tdiv_eq_ediv_of_nonneg (by omega)
    have d2 : p.tdiv 2 = p / 2 := Int.tdiv_eq_ediv_of_nonneg (by omega)
    have d10 : p.tdiv 10 = p / 10 := Int.tdiv_eq_ediv_of_nonneg (by omega)
    have w3 : IntKind.i64.wrap (p / 3) = p / 3 := IntWalk.i64_in _ (by omega)
    have w2 : IntKind.i64.wrap (p / 2) = p / 2 := IntWalk.i64_in _ (by omega)
    have w10 : IntKind.i64.wrap (p / 10) = p / 10 := IntWalk.i64_in _ (by omega)
    have v0 : IntKind.i64.wrap p = p := IntWalk.i64_in _ (by omega)
    have v3 : IntKind.i64.wrap (p - p / 3) = p - p / 3 := IntWalk.i64_in _ (by omega)
    have v2 : IntKind.i64.wrap (p - p / 2) = p - p / 2 := IntWalk.i64_in _ (by omega)
    have v10 : IntKind.i64.wrap (p - p / 10) = p - p / 10 := IntWalk.i64_in _ (by omega)
    have hc : c = 0 ∨ c = 1 ∨ c = 2 ∨ c = 3 := by omega
    clear h hz hv hE e1
    rcases hc with rfl | rfl | rfl | rfl
    all_goals
      go_enter Try.func12, Try.ntmps12
      go_wp2
      all_goals
        go_ret2
        refine ⟨?_, below_lit w _ _⟩
        rw [HV.out]
        refine congrArg (fun z => Ending.returned (Value.tuple #[.int .i64 z, .int .i64 0])) ?_
        unfold cutN mx mn offN
        repeat' split
        all_goals omega
  | false =>
    have e1 : v = 0 := by rw [← hv, cutV, h]; rfl
    have e2 : E = 1 := by rw [← hE, cutE, h]; rfl
    subst e1 e2
    have hno : p < 0 ∨ (¬ p < 0 ∧ 1000000000 < p) ∨ (¬ p < 0 ∧ ¬ 1000000000 < p ∧ c < 0) ∨ (¬ p < 0 ∧ ¬ 1000000000 < p ∧ ¬ c < 0 ∧ 3 < c) := by
      have : ¬ (0 ≤ p ∧ p ≤ 1000000000 ∧ 0 ≤ c ∧ c ≤ 3) := fun hh => by rw [(okC_iff p c).2 hh] at h; cases h
      omega
    clear h hv hE
    rcases hno with h | ⟨h, h2⟩ | ⟨h, h2, h3⟩ | ⟨h, h2, h3, h4⟩
    all_goals
      go_enter Try.func12, Try.ntmps12
      go_wp2
      go_ret2
      exact ⟨rfl, Below.refl _ _⟩
set_option maxRecDepth 20000 in
theorem refback_any (p l a v E : Int) (hv : backV p l a = v) (hE : backE p l a = E) (w : World) : Calls Try.prog 17 #[.int .i64 p, .int .i64 l, .int .i64 a] w fun e w' => e = .returned (.tuple #[.int .i64 v, .int .i64 E]) ∧ Below w.heap.size w w' := by
  cases h : okK p l a with
  | true =>
    have hz := (okK_iff p l a).1 h
    have e1 : v = backN p l a := by rw [← hv, backV, h]; rfl
    have e2 : E = 0 := by rw [← hE, backE, h]; rfl
    subst e2
    have HV := Lib.hid e1
    have m0 : 0 ≤ p * l := Int.mul_nonneg hz.1 hz.2.2.2.2.1
    have m1 : p * l ≤ 1000000000 * 20 := Int.mul_le_mul hz.2.1 (by omega) hz.2.2.2.2.1 (by omega)
    have m2 : 0 ≤ p * l / a := Int.ediv_nonneg m0 (by omega)
    have m3 : p * l / a ≤ p * l := Int.ediv_le_self _ m0
    have q1 : decide (p < 0) = false := decide_eq_false (by omega)
    have q2 : decide (1000000000 < p) = false := decide_eq_false (by omega)
    have q3 : decide (a < 1) = false := decide_eq_false (by omega)
    have q4 : decide (20 < a) = false := decide_eq_false (by omega)
    have q5 : decide (l < 0) = false := decide_eq_false (by omega)
    have q6 : decide (a < l) = false := decide_eq_false (by omega)
    have n0 : ¬ a = 0 := by omega
    have w1 : IntKind.i64.wrap (p * l) = p * l := IntWalk.i64_in _ (by omega)
    have d1 : (p * l).tdiv a = p * l / a := Int.tdiv_eq_ediv_of_nonneg m0
    have w2 : IntKind.i64.wrap (p * l / a) = p * l / a := IntWalk.i64_in _ (by omega)
    have w3 : IntKind.i64.wrap (p * l / a - 150) = p * l / a - 150 := IntWalk.i64_in _ (by omega)
    clear h hz hv hE e1 m0 m1 m2 m3
    go_enter Try.func17, Try.ntmps17
    go_wp2
    all_goals
      go_ret2
      refine ⟨?_, Below.refl _ _⟩
      rw [HV.out]
      refine congrArg (fun z => Ending.returned (Value.tuple #[.int .i64 z, .int .i64 0])) ?_
      unfold backN mx
      repeat' split
      all_goals omega
  | false =>
    have e1 : v = 0 := by rw [← hv, backV, h]; rfl
    have e2 : E = 1 := by rw [← hE, backE, h]; rfl
    subst e1 e2
    have hno : p < 0 ∨ (¬ p < 0 ∧ 1000000000 < p) ∨ (¬ p < 0 ∧ ¬ 1000000000 < p ∧ a < 1) ∨ (¬ p < 0 ∧ ¬ 1000000000 < p ∧ ¬ a < 1 ∧ 20 < a) ∨ (¬ p < 0 ∧ ¬ 1000000000 < p ∧ ¬ a < 1 ∧ ¬ 20 < a ∧ l < 0) ∨ (¬ p < 0 ∧ ¬ 1000000000 < p ∧ ¬ a < 1 ∧ ¬ 20 < a ∧ ¬ l < 0 ∧ a < l) := by
      have : ¬ (0 ≤ p ∧ p ≤ 1000000000 ∧ 1 ≤ a ∧ a ≤ 20 ∧ 0 ≤ l ∧ l ≤ a) := fun hh => by rw [(okK_iff p l a).2 hh] at h; cases h
      omega
    clear h hv hE
    rcases hno with h | ⟨h, h2⟩ | ⟨h, h2, h3⟩ | ⟨h, h2, h3, h4⟩ | ⟨h, h2, h3, h4, h5⟩ | ⟨h, h2, h3, h4, h5, h6⟩
    all_goals
      go_enter Try.func17, Try.ntmps17
      go_wp2
      go_ret2
      exact ⟨rfl, Below.refl _ _⟩
end Go.Proofs.Ytniffcjcnjhehaa
