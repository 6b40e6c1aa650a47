/-
  Contract for the landed yearStart: the days ahead of a year's first. Conditions: the year is one of 2000 to 2273.
-/
import Derived.Test.YtiekfcpinljcjaaDayPSmall
namespace Go.Proofs.Ytiekfcpinljcjaa
set_option linter.unusedVariables false
open Go.ChangeShapes Go.WideShapes Go.ChangeAt Go.RowKit

theorem pstart_same (y : Int) (j n : Nat) (hy : y = 2000 + (j : Int)) (hj : j ≤ 273) (hn : dsum (12 * j) = n) (w : World) : Calls Try.prog 20 #[.int .i64 y] w fun e w' => e = .returned (.int .i64 (n : Int)) ∧ w = w' := by
  subst hy
  have HN := Lib.hid hn
  clear hn
  have w0 : IntKind.i64.wrap (2000 + (j : Int) - 2000) = (j : Int) := by rw [IntWalk.i64_in _ (by omega)]; omega
  have b1 : (2000 : Int) + (j : Int) - 2000 = (j : Int) := by omega
  go_enter Try.func20, Try.ntmps20
  go_wp2
  clear w0 b1
  go_loop [3, 7] (fun a b => ∃ k : Nat, k ≤ j ∧ a = .int .i64 ((dsum (12 * k) : Nat) : Int) ∧ b = .int .i64 (k : Int)) (fun _ b => j - (intOf b).toNat)
  case atStart => exact ⟨0, Nat.zero_le _, rfl, rfl⟩
  case round =>
    obtain ⟨k, hk, rfl, rfl⟩ := hrel
    have h3 := dsum_years_le k
    have h4 := yl_le (2000 + (k : Int))
    have HY := Lib.hid (dsum_year k)
    by_cases hlt : k < j
    · go_wp2_with (go_at_call 16; refine (pdaysIn_same _ (yl (2000 + (k : Int))) rfl _).mono ?_; rintro e w1 ⟨rfl, rfl⟩)
      go_round
      case rel => exact ⟨k + 1, by omega, by rw [HY.out]; go_num, by go_num⟩
      case measure => simp [intOf]; omega
    · have e : k = j := by omega
      go_wp2
      go_ret
      exact ⟨by rw [← HN.out]; rfl, rfl⟩
end Go.Proofs.Ytiekfcpinljcjaa
