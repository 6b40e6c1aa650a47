/-
  Contract for the landed Back. Conditions: none.
-/
import Derived.Test.YtniffcjcnjhehaaFarePSmall
namespace Go.Proofs.Ytniffcjcnjhehaa
set_option linter.unusedVariables false
open Go.ChangeShapes Go.WideShapes Go.ChangeAt Go.RowKit

set_option maxRecDepth 20000 in
theorem pback_any (p l a v E : Int) (hv : backV p l a = v) (hE : backE p l a = E) (w : World) : Calls Try.prog 16 #[.int .i64 p, .int .i64 l, .int .i64 a] w fun e w' => e = .returned (.tuple #[.int .i64 v, .int .i64 E]) ∧ Below w.heap.size w w' := by
  obtain ⟨bp, hbp⟩ : ∃ b, isP p = b := ⟨_, rfl⟩
  cases h : okK p l a with
  | true =>
    have hz := (okK_iff p l a).1 h
    have e1 : v = backN p l a := by rw [← hv, backV, h]; rfl
    have e2 : E = 0 := by rw [← hE, backE, h]; rfl
    subst e2
    have HV := Lib.hid e1
    obtain rfl : bp = true := by rw [← hbp]; simp [isP]; omega
    have m0 : 0 ≤ p * l := Int.mul_nonneg hz.1 hz.2.2.2.2.1
    have m1 : p * l ≤ 1000000000 * 20 := Int.mul_le_mul hz.2.1 (by omega) hz.2.2.2.2.1 (by omega)
    have m2 : 0 ≤ p * l / a := Int.ediv_nonneg m0 (by omega)
    have m3 : p * l / a ≤ p * l := Int.ediv_le_self _ m0
    have q3 : decide (a < 1) = false := decide_eq_false (by omega)
    have q4 : decide (20 < a) = false := decide_eq_false (by omega)
    have q5 : decide (l < 0) = false := decide_eq_false (by omega)
    have q6 : decide (a < l) = false := decide_eq_false (by omega)
    have n0 : ¬ a = 0 := by omega
    have w1 : IntKind.i64.wrap (p * l) = p * l := IntWalk.i64_in _ (by omega)
    have d1 : (p * l).tdiv a = p * l / a := Int.tdiv_eq_ediv_of_nonneg m0
    have w2 : IntKind.i64.wrap (p * l / a) = p * l / a := IntWalk.i64_in _ (by omega)
    have w3 : IntKind.i64.wrap (p * l / a - 150) = p * l / a - 150 := IntWalk.i64_in _ (by omega)
    clear h hz hv hE e1 m0 m1 m2 m3
    go_enter Try.func16, Try.ntmps16
    go_wp2_with (go_at_call 20; refine (pprice_any p true hbp _).mono ?_; rintro e w2 ⟨rfl, rfl⟩)
    all_goals
      go_ret2
      refine ⟨?_, Below.refl _ _⟩
      rw [HV.out]
      refine congrArg (fun z => Ending.returned (Value.tuple #[.int .i64 z, .int .i64 0])) ?_
      unfold backN mx
      repeat' split
      all_goals omega
  | false =>
    have e1 : v = 0 := by rw [← hv, backV, h]; rfl
    have e2 : E = 1 := by rw [← hE, backE, h]; rfl
    subst e1 e2
    have hno : bp = false ∨ (bp = true ∧ (a < 1 ∨ (¬ a < 1 ∧ 20 < a) ∨ (¬ a < 1 ∧ ¬ 20 < a ∧ l < 0) ∨ (¬ a < 1 ∧ ¬ 20 < a ∧ ¬ l < 0 ∧ a < l))) := by
      have : ¬ (0 ≤ p ∧ p ≤ 1000000000 ∧ 1 ≤ a ∧ a ≤ 20 ∧ 0 ≤ l ∧ l ≤ a) := fun hh => by rw [(okK_iff p l a).2 hh] at h; cases h
      cases hp : bp with
      | false => exact .inl rfl
      | true =>
        have := (show isP p = true ↔ 0 ≤ p ∧ p ≤ 1000000000 by simp [isP]).1 (hbp.trans hp)
        exact .inr ⟨rfl, by omega⟩
    clear h hv hE
    rcases hno with rfl | ⟨rfl, h | ⟨h, h2⟩ | ⟨h, h2, h3⟩ | ⟨h, h2, h3, h4⟩⟩
    all_goals
      go_enter Try.func16, Try.ntmps16
      go_wp2_with (go_at_call 20; refine (pprice_any p _ hbp _).mono ?_; rintro e w2 ⟨rfl, rfl⟩)
      go_ret2
      exact ⟨rfl, Below.refl _ _⟩
end Go.Proofs.Ytniffcjcnjhehaa
