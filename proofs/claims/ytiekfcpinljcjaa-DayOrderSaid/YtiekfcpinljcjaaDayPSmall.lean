/-
  Contracts for the landed Leap, isDay, daysIn and Weekday. Conditions: none.
-/
import Derived.Test.YtiekfcpinljcjaaMem
import Derived.Test.YtiekfcpinljcjaaDayPMath
import Derived.Test.YtiekfcpinljcjaaDayC
namespace Go.Proofs.Ytiekfcpinljcjaa
set_option linter.unusedVariables false
open Go.ChangeShapes Go.WideShapes Go.ChangeAt Go.RowKit

theorem leap_bools (a b c : Bool) (h : (b = true → a = true)) (h2 : c = true → b = false) : (a && (b || c)) = ((a && b) || c) ∨ (c = true ∧ a = false) := by
  cases a <;> cases b <;> cases c <;> simp_all
theorem leap_eq (y : Int) : ((y.tmod 4 == 0 && y.tmod 100 != 0) || y.tmod 400 == 0) = leapN y := by
  unfold leapN
  cases h4 : (y.tmod 4 == 0) <;> cases h1 : (y.tmod 100 != 0) <;> cases h5 : (y.tmod 400 == 0) <;> try rfl
  all_goals
    exfalso
    simp at h4 h5
    have e4 : y.tmod 4 = 0 := by
      have h6 : (400 : Int) ∣ y := Int.dvd_of_tmod_eq_zero h5
      exact Int.tmod_eq_zero_of_dvd (Int.dvd_trans (by decide) h6)
    omega
theorem pleap_same (y : Int) (b : Bool) (hb : leapN y = b) (w : World) : Calls Try.prog 12 #[.int .i64 y] w fun e w' => e = .returned (.bool b) ∧ w' = w := by
  have HB := Lib.hid (show ((y.tmod 4 == 0 && y.tmod 100 != 0) || y.tmod 400 == 0) = b from (leap_eq y).trans hb)
  clear hb
  cases h4 : (y.tmod 4 == 0) <;> cases h1 : (y.tmod 100 != 0) <;> cases h5 : (y.tmod 400 == 0)
  all_goals
    have HC := Lib.hid h4
    have HD := Lib.hid h1
    have HF := Lib.hid h5
    go_enter Try.func12, Try.ntmps12
    go_wp2
    go_ret
    refine ⟨congrArg Ending.returned (congrArg Value.bool ?_), rfl⟩
    have hb := HB.out
    rw [HC.out, HD.out, HF.out] at hb
    exact hb
theorem pisDay_same (n : Int) (b : Bool) (hb : okN n = b) (w : World) : Calls Try.prog 15 #[.int .i64 n] w fun e w' => e = .returned (.bool b) ∧ w = w' := by
  have HB := Lib.hid hb
  clear hb
  by_cases h0 : 0 ≤ n
  · have q0 : decide (0 ≤ n) = true := decide_eq_true h0
    by_cases h1 : n ≤ 99999
    · have hb : b = true := HB.out.symm.trans ((okN_iff n).2 ⟨h0, h1⟩)
      subst hb
      have q1 : decide (n ≤ 99999) = true := decide_eq_true h1
      go_enter Try.func15, Try.ntmps15
      go_wp2
      go_ret
      exact ⟨rfl, rfl⟩
    · have q1 : decide (n ≤ 99999) = false := decide_eq_false h1
      have hb : b = false := by rw [← HB.out, okN, q0, q1]; rfl
      subst hb
      go_enter Try.func15, Try.ntmps15
      go_wp2
      go_ret
      exact ⟨rfl, rfl⟩
  · have q0 : decide (0 ≤ n) = false := decide_eq_false h0
    have hb : b = false := by rw [← HB.out, okN, q0]; rfl
    subst hb
    go_enter Try.func15, Try.ntmps15
    go_wp2
    go_ret
    exact ⟨rfl, rfl⟩
theorem pdaysIn_same (y : Int) (n : Nat) (hn : yl y = n) (w : World) : Calls Try.prog 16 #[.int .i64 y] w fun e w' => e = .returned (.int .i64 (n : Int)) ∧ w = w' := by
  have HN := Lib.hid hn
  clear hn
  cases hl : leapN y with
  | false =>
    have hn : n = 365 := by rw [← HN.out, yl, hl]; rfl
    subst hn
    have HL := Lib.hid hl
    clear hl
    go_enter Try.func16, Try.ntmps16
    go_wp2_with (go_at_call 12; refine (pleap_same y false HL.out w).mono ?_; rintro e w1 ⟨rfl, rfl⟩)
    go_ret
    exact ⟨rfl, rfl⟩
  | true =>
    have hn : n = 366 := by rw [← HN.out, yl, hl]; rfl
    subst hn
    have HL := Lib.hid hl
    clear hl
    go_enter Try.func16, Try.ntmps16
    go_wp2_with (go_at_call 12; refine (pleap_same y true HL.out w).mono ?_; rintro e w1 ⟨rfl, rfl⟩)
    go_ret
    exact ⟨rfl, rfl⟩
theorem pweek_any (n E : Int) (w : World) (hI : In64 n) (hE : dateE n = E) : Calls Try.prog 14 #[.int .i64 n] w fun e w' => ∃ v : Int, e = .returned (.tuple #[.int .i64 v, .int .i64 E]) ∧ (okN n = true → v = (n + 5) % 7) ∧ Below w.heap.size w w' := by
  have HE := Lib.hid hE
  clear hE hI
  cases h : okN n with
  | false =>
    have HK := Lib.hid h
    have hE : E = 1 := by rw [← HE.out, dateE, h]; rfl
    subst hE
    suffices H : Calls Try.prog 14 #[.int .i64 n] w fun e w' => e = .returned (.tuple #[.int .i64 0, .int .i64 1]) ∧ w = w' from H.mono fun e w' hh => ⟨0, hh.1, (fun hx => by cases hx), by rw [← hh.2]; exact Below.refl _ _⟩
    clear h
    go_enter Try.func14, Try.ntmps14
    go_wp2_with (go_at_call 15; refine (pisDay_same n false HK.out w).mono ?_; rintro e w1 ⟨rfl, rfl⟩)
    go_ret2
    exact ⟨rfl, rfl⟩
  | true =>
    have HK := Lib.hid h
    have hE : E = 0 := by rw [← HE.out, dateE, h]; rfl
    subst hE
    have hr := (okN_iff n).1 h
    obtain ⟨hr1, hr2⟩ := hr
    suffices H : Calls Try.prog 14 #[.int .i64 n] w fun e w' => e = .returned (.tuple #[.int .i64 ((n + 5) % 7), .int .i64 0]) ∧ w = w' from H.mono fun e w' hh => ⟨(n + 5) % 7, hh.1, (fun _ => rfl), by rw [← hh.2]; exact Below.refl _ _⟩
    clear h
    go_enter Try.func14, Try.ntmps14
    go_wp2_with (go_at_call 15; refine (pisDay_same n true HK.out w).mono ?_; rintro e w1 ⟨rfl, rfl⟩)
    go_ret2
    exact ⟨rfl, rfl⟩
end Go.Proofs.Ytiekfcpinljcjaa
