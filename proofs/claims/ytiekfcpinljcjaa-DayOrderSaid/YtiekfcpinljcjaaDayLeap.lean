/-
  Contracts for the reference's Leap and Length. Conditions: none.
-/
import Derived.Test.YtiekfcpinljcjaaMem
import Derived.Test.YtiekfcpinljcjaaDayMath
namespace Go.Proofs.Ytiekfcpinljcjaa
set_option linter.unusedVariables false
open Go.ChangeShapes Go.WideShapes Go.ChangeAt Go.RowKit

theorem refleap_same (y : Int) (b : Bool) (hb : leapN y = b) (w : World) : Calls Try.prog 13 #[.int .i64 y] w fun e w' => e = .returned (.bool b) ∧ w' = w := by
  have HB := Lib.hid (show (y.tmod 4 == 0 && (y.tmod 100 != 0 || y.tmod 400 == 0)) = b from hb)
  clear hb
  cases h4 : (y.tmod 4 == 0) <;> cases h1 : (y.tmod 100 != 0) <;> cases h5 : (y.tmod 400 == 0)
  all_goals
    have HC := Lib.hid h4
    have HD := Lib.hid h1
    have HF := Lib.hid h5
    go_enter Try.func13, Try.ntmps13
    go_wp2
    go_ret
    refine ⟨congrArg Ending.returned (congrArg Value.bool ?_), rfl⟩
    have hb := HB.out
    rw [HC.out, HD.out, HF.out] at hb
    exact hb
theorem reflength_same (y m : Int) (n : Nat) (hn : lenM y m = n) (w : World) : Calls Try.prog 18 #[.int .i64 y, .int .i64 m] w fun e w' => e = .returned (.int .i64 (n : Int)) ∧ w' = w := by
  have HN := Lib.hid hn
  clear hn
  by_cases h2 : m = 2
  · subst h2
    cases hl : leapN y with
    | false =>
      have hn : n = 28 := by rw [← HN.out, lenM, hl]; rfl
      subst hn
      have HL := Lib.hid hl
      clear hl
      go_enter Try.func18, Try.ntmps18
      go_wp2_with (go_at_call 13; refine (refleap_same y false HL.out w).mono ?_; rintro e w1 ⟨rfl, rfl⟩)
      go_ret
      exact ⟨rfl, rfl⟩
    | true =>
      have hn : n = 29 := by rw [← HN.out, lenM, hl]; rfl
      subst hn
      have HL := Lib.hid hl
      clear hl
      go_enter Try.func18, Try.ntmps18
      go_wp2_with (go_at_call 13; refine (refleap_same y true HL.out w).mono ?_; rintro e w1 ⟨rfl, rfl⟩)
      go_ret
      exact ⟨rfl, rfl⟩
  · have e2 : (m == 2) = false := by simpa using h2
    have hn := HN.out
    unfold lenM at hn
    rw [if_neg h2] at hn
    by_cases hor : m = 4 ∨ m = 6 ∨ m = 9 ∨ m = 11
    · rw [if_pos hor] at hn
      subst hn
      have h4 : (m == 4 || m == 6 || m == 9 || m == 11) = true := by simp; omega
      clear hor h2
      cases e4 : (m == 4) <;> cases e6 : (m == 6) <;> cases e9 : (m == 9) <;> cases e11 : (m == 11) <;> rw [e4, e6, e9, e11] at h4 <;> try (cases h4; done)
      all_goals
        clear h4
        go_enter Try.func18, Try.ntmps18
        go_wp2
        go_ret
        exact ⟨rfl, rfl⟩
    · rw [if_neg hor] at hn
      subst hn
      have e4 : (m == 4) = false := by rw [beq_eq_false_iff_ne]; omega
      have e6 : (m == 6) = false := by rw [beq_eq_false_iff_ne]; omega
      have e9 : (m == 9) = false := by rw [beq_eq_false_iff_ne]; omega
      have e11 : (m == 11) = false := by rw [beq_eq_false_iff_ne]; omega
      clear hor h2
      go_enter Try.func18, Try.ntmps18
      go_wp2
      go_ret
      exact ⟨rfl, rfl⟩
theorem refleap_any (y : Int) (b : Bool) (hb : leapN y = b) (w : World) : Calls Try.prog 13 #[.int .i64 y] w fun e w' => e = .returned (.bool b) ∧ Below w.heap.size w w' :=
  (refleap_same y b hb w).mono fun e w' h => ⟨h.1, by rw [h.2]; exact Below.refl _ _⟩
theorem reflength_any (y m : Int) (n : Nat) (hn : lenM y m = n) (w : World) : Calls Try.prog 18 #[.int .i64 y, .int .i64 m] w fun e w' => e = .returned (.int .i64 (n : Int)) ∧ Below w.heap.size w w' :=
  (reflength_same y m n hn w).mono fun e w' h => ⟨h.1, by rw [h.2]; exact Below.refl _ _⟩
end Go.Proofs.Ytiekfcpinljcjaa
