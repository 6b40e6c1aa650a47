/-
  Contracts for the reference's Widths. Conditions: none.
-/
import Derived.Test.YtpeccmcojocgkaaLaySide
import Derived.Test.YtpeccmcojocgkaaBcdVals
namespace Go.Proofs.Ytpeccmcojocgkaa
set_option linter.unusedVariables false
open Go.ChangeShapes Go.WideShapes Go.ChangeAt Go.RowKit

theorem rwid_no (k : Int) (hk : ¬ (1 ≤ k ∧ k ≤ 4)) (w : World) : Calls Try.prog 11 #[.int .i64 k] w fun e w' => e = .returned (.tuple #[.slice none 0 0, .int .i64 8]) ∧ w = w' := by
  cases q1 : decide (k < 1) with
  | true =>
    go_enter Try.func11, Try.ntmps11
    go_wp2
    go_ret2
    exact ⟨rfl, rfl⟩
  | false =>
    have q2 : decide (4 < k) = true := by have := of_decide_eq_false q1; exact decide_eq_true (by omega)
    go_enter Try.func11, Try.ntmps11
    go_wp2
    go_ret2
    exact ⟨rfl, rfl⟩
theorem rwid_3 (k : Int) (hk : k = 3) (w : World) : Calls Try.prog 11 #[.int .i64 k] w fun e w' => ∃ A c, e = .returned (.tuple #[.slice A 12 c, .int .i64 0]) ∧ Zs w' w'.heap.size [1, 7, 1, 1, 5, 3, 1, 1, 1, 2, 2, 2] A c ∧ Below w.heap.size w w' := by
  have q1 : decide (k < 1) = false := decide_eq_false (by omega)
  have q2 : decide (4 < k) = false := decide_eq_false (by omega)
  have p3 : (k == 3) = true := by rw [beq_iff_eq]; omega
  clear hk
  go_enter Try.func11, Try.ntmps11
  go_wp2
  go_ret2
  exact ⟨_, _, rfl, zs_lit w _ [1, 7, 1, 1, 5, 3, 1, 1, 1, 2, 2, 2] 12 rfl rfl (by omega), below_lit _ _ _⟩
theorem rwid_4 (k : Int) (hk : k = 4) (w : World) : Calls Try.prog 11 #[.int .i64 k] w fun e w' => ∃ A c, e = .returned (.tuple #[.slice A 13 c, .int .i64 0]) ∧ Zs w' w'.heap.size [1, 7, 1, 1, 5, 3, 1, 2, 2, 2, 2, 2, 2] A c ∧ Below w.heap.size w w' := by
  have q1 : decide (k < 1) = false := decide_eq_false (by omega)
  have q2 : decide (4 < k) = false := decide_eq_false (by omega)
  have p3 : (k == 3) = false := by rw [beq_eq_false_iff_ne]; omega
  have p4 : (k == 4) = true := by rw [beq_iff_eq]; omega
  clear hk
  go_enter Try.func11, Try.ntmps11
  go_wp2
  go_ret2
  exact ⟨_, _, rfl, zs_lit w _ [1, 7, 1, 1, 5, 3, 1, 2, 2, 2, 2, 2, 2] 13 rfl rfl (by omega), below_lit _ _ _⟩
theorem rwid_12 (k : Int) (hk : k = 1 ∨ k = 2) (w : World) : Calls Try.prog 11 #[.int .i64 k] w fun e w' => ∃ A c, e = .returned (.tuple #[.slice A 12 c, .int .i64 0]) ∧ Zs w' w'.heap.size [1, 7, 1, 1, 5, 3, 1, 2, 2, 2, 2, 2] A c ∧ Below w.heap.size w w' := by
  have q1 : decide (k < 1) = false := decide_eq_false (by omega)
  have q2 : decide (4 < k) = false := decide_eq_false (by omega)
  have p3 : (k == 3) = false := by rw [beq_eq_false_iff_ne]; omega
  have p4 : (k == 4) = false := by rw [beq_eq_false_iff_ne]; omega
  clear hk
  go_enter Try.func11, Try.ntmps11
  go_wp2
  go_ret2
  exact ⟨_, _, rfl, zs_lit w _ [1, 7, 1, 1, 5, 3, 1, 2, 2, 2, 2, 2] 12 rfl rfl (by omega), below_lit _ _ _⟩
theorem rwidths_any (k E : Int) (l : List Int) (n : Nat) (hn : n = l.length) (hE : widE k = E) (hl : widL k = l) (w : World) : Calls Try.prog 11 #[.int .i64 k] w fun e w' => ∃ A c, e = .returned (.tuple #[.slice A n c, .int .i64 E]) ∧ Zs w' w'.heap.size l A c ∧ Below w.heap.size w w' := by
  by_cases hk : 1 ≤ k ∧ k ≤ 4
  · obtain rfl : E = 0 := by rw [← hE, widE, if_pos hk]
    rw [widL, if_pos hk, widF] at hl
    by_cases h3 : k = 3
    · rw [if_pos h3] at hl
      subst hl hn
      exact rwid_3 k h3 w
    · rw [if_neg h3] at hl
      by_cases h4 : k = 4
      · rw [if_pos h4] at hl
        subst hl hn
        exact rwid_4 k h4 w
      · rw [if_neg h4] at hl
        subst hl hn
        exact rwid_12 k (by omega) w
  · obtain rfl : E = 8 := by rw [← hE, widE, if_neg hk]
    obtain rfl : l = [] := by rw [← hl, widL, if_neg hk]
    subst hn
    refine (rwid_no k hk w).mono ?_
    rintro e w' ⟨rfl, rfl⟩
    exact ⟨none, 0, rfl, zs_nil _, Below.refl _ _⟩
end Go.Proofs.Ytpeccmcojocgkaa
