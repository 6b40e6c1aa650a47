/-
  Contracts for the reference's ones and Value. Conditions: none.
-/
import Derived.Test.YtjlcaobffhihhaaParityMath
import Derived.Test.YtjlcaobffhihhaaMem
namespace Go.Proofs.Ytjlcaobffhihhaa
set_option linter.unusedVariables false
open Go.ChangeShapes Go.WideShapes Go.ChangeAt Go.RowKit

set_option maxRecDepth 100000 in
set_option maxHeartbeats 1600000 in
theorem refones_any (n k : Nat) (hn : n < 32) (hk : ones5 n = k) (w : World) : Calls Try.prog 39 #[.int .i64 (n : Int)] w fun e w' => e = .returned (.int .i64 (k : Int)) ∧ w' = w := by
  have HN := Lib.hid hn
  have HK := Lib.hid hk
  have hk5 : k ≤ 5 := by rw [← hk]; exact ones5_le n
  clear hn hk
  go_enter Try.func39, Try.ntmps39
  go_wp2
  go_loop [0, 3] (fun a b => ∃ m j : Nat, a = .int .i64 m ∧ b = .int .i64 j ∧ m < 32 ∧ j + ones5 m = k) (fun a _ => (intOf a).toNat)
  case atStart => exact ⟨n, 0, rfl, rfl, HN.out, by rw [HK.out, Nat.zero_add]⟩
  case round =>
    obtain ⟨m, j, rfl, rfl, hm, hj⟩ := hrel
    have hst := ones5_step hm
    have hle := ones5_le m
    have HJ := Lib.hid hj
    have HM := Lib.hid hm
    by_cases h0 : 0 < m
    · have b1 : (0 : Int) < (m : Int) := by omega
      have wj : IntKind.i64.wrap ((j : Int) + (m : Int) % 2) = (j : Int) + (m : Int) % 2 := IntWalk.i64_in _ (by omega)
      have wq : wrap64 ((m : Int) / 2) = (m : Int) / 2 := by unfold wrap64; omega
      have hq : ((m : Int) / 2) = ((m / 2 : Nat) : Int) := by omega
      have hj2 : (j : Int) + (m : Int) % 2 = ((j + m % 2 : Nat) : Int) := by omega
      have HQ := Lib.hid hq
      have HJ2 := Lib.hid hj2
      clear hq hj2
      have HS := Lib.hid hst
      clear hj hm hst hle
      go_wp2
      go_round
      case rel => exact ⟨m / 2, j + m % 2, by first | (rw [wq, HQ.out]; done) | (rw [HQ.out]; done), by first | (rw [wj, HJ2.out]; done) | (rw [HJ2.out]; done), by have := HM.out; omega, by have := HJ.out; have := HS.out; omega⟩
      case measure => (try rw [wq]); simp [intOf]; omega
    · have e : m = 0 := by omega
      subst e
      have hjk : j = k := by have := HJ.out; simp [ones5] at this; exact this
      clear hj hm hst hle h0
      go_wp2
      go_ret
      exact ⟨rfl, rfl⟩
set_option maxRecDepth 100000 in
set_option maxHeartbeats 1600000 in
theorem refvalue_any (c x E : Int) (hv : valV c = x) (hE : valE c = E) (w : World) : Calls Try.prog 31 #[.int .i64 c] w fun e w' => e = .returned (.tuple #[.int .i64 x, .int .i64 E]) ∧ w' = w := by
  cases h : isC c with
  | false =>
    have e1 : x = 0 := by rw [← hv, valV, h]; rfl
    have e2 : E = 1 := by rw [← hE, valE, h]; rfl
    subst e1 e2
    clear hv hE
    cases q1 : decide (c < 0)
    case true =>
      clear h
      go_enter Try.func31, Try.ntmps31
      go_wp2
      go_ret2
      exact ⟨rfl, rfl⟩
    case false =>
      have q2 : decide (31 < c) = true := by
        rw [decide_eq_false_iff_not] at q1
        refine decide_eq_true ?_
        rcases Int.lt_or_le 31 c with h1 | h1
        · exact h1
        · rw [(isC_iff c).2 ⟨by omega, h1⟩] at h; cases h
      clear h
      go_enter Try.func31, Try.ntmps31
      go_wp2
      go_ret2
      exact ⟨rfl, rfl⟩
  | true =>
    have hs := (isC_iff c).1 h
    have q1 : decide (c < 0) = false := decide_eq_false (by omega)
    have q2 : decide (31 < c) = false := decide_eq_false (by omega)
    obtain ⟨n, hn⟩ : ∃ n : Nat, c = (n : Int) := ⟨c.toNat, by omega⟩
    subst hn
    have ht : (n : Int).toNat = n := by omega
    have HN := Lib.hid (show n < 32 by omega)
    obtain ⟨k, hk⟩ : ∃ k, ones5 n = k := ⟨_, rfl⟩
    have HK := Lib.hid hk
    have hx : (if k % 2 = 0 then 0 else (n : Int) % 16) = x := by rw [← hv, valV, if_pos h, ht, hk]
    have hE2 : (if k % 2 = 0 then 3 else 0) = E := by rw [← hE, valE, if_pos h, ht, hk]
    by_cases hk2 : k % 2 = 0
    · have q3 : ((k : Int) % 2 == 0) = true := by rw [beq_iff_eq]; omega
      rw [if_pos hk2] at hx hE2
      subst hx hE2
      clear hv hE h hs hk hk2
      go_enter Try.func31, Try.ntmps31
      go_wp2_with (go_at_call 39; refine (refones_any n k HN.out HK.out _).mono ?_; rintro e w1 ⟨rfl, rfl⟩)
      go_ret2
      exact ⟨rfl, rfl⟩
    · have q3 : ((k : Int) % 2 == 0) = false := by rw [beq_eq_false_iff_ne]; omega
      rw [if_neg hk2] at hx hE2
      subst hE2
      have HX := Lib.hid hx
      clear hv hE h hs hk hk2 hx
      go_enter Try.func31, Try.ntmps31
      go_wp2_with (go_at_call 39; refine (refones_any n k HN.out HK.out _).mono ?_; rintro e w1 ⟨rfl, rfl⟩)
      go_ret2
      exact ⟨by rw [← HX.out]; rfl, rfl⟩
end Go.Proofs.Ytjlcaobffhihhaa
