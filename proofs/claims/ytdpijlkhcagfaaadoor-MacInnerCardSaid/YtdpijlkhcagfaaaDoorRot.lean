/-
  Contracts for bits.Rot and its reference: both answer the word turned by n places, for every word and number, and turn nothing in memory. Conditions: the arguments fit their kinds.
-/
import Derived.Test.YtdpijlkhcagfaaaDoorMem
namespace Go.Proofs.YtdpijlkhcagfaaaDoor
set_option linter.unusedVariables false
open Go.ChangeShapes Go.WideShapes Go.ChangeAt Go.RowKit

theorem ret_int {k : IntKind} {a b : Int} (h : a = b) : Ending.returned (.int k a) = .returned (.int k b) := by rw [h]
theorem rot_bits (x : Nat) (n : Int) (hx : x < 4294967296) :
    bits BinOp.or IntKind.u32 ((x : Int) / 2 ^ (n % 32).toNat) ((x : Int) * 2 ^ (32 - n % 32).toNat % 4294967296) = ((itr (n % 32).toNat x : Nat) : Int) := by
  obtain ⟨k, hk⟩ : ∃ k : Nat, k = (n % 32).toNat := ⟨_, rfl⟩
  have e2 : (32 - n % 32).toNat = 32 - k := by omega
  rw [← hk, e2]
  have h1 : (x : Int) / 2 ^ k = ((x / 2 ^ k : Nat) : Int) := by simp
  have h2 : (x : Int) * 2 ^ (32 - k) % 4294967296 = ((x * 2 ^ (32 - k) % 4294967296 : Nat) : Int) := by simp
  rw [h1, h2, u32_or_nat _ _ (Nat.lt_of_le_of_lt (Nat.div_le_self _ _) hx) (Nat.mod_lt _ (by omega)), or_rot x k hx (by omega)]

theorem rot_any (x : Nat) (n : Int) (w : World) (hx : x < 4294967296) (hn0 : -9223372036854775808 ≤ n) (hn1 : n ≤ 9223372036854775807) :
    Calls Tryd.prog 48 #[.int .u32 x, .int .i64 n] w fun e w' => e = .returned (.int .u32 ((itr (n % 32).toNat x : Nat) : Int)) ∧ w = w' := by
  have hx' : (x : Int) ≤ 4294967295 := by omega
  go_enter Tryd.func48, Tryd.ntmps48
  go_wp2
  go_ret
  refine ⟨ret_int ?_, rfl⟩
  exact rot_bits x n hx

theorem stp_one {y : Nat} (h : ((y : Int) % 2 == 1) = true) : (y : Int) / 2 + 2147483648 = ((stp y : Nat) : Int) := by
  simp only [beq_iff_eq] at h
  unfold stp
  omega
theorem stp_zero {y : Nat} (h : ((y : Int) % 2 == 1) = false) : (y : Int) / 2 = ((stp y : Nat) : Int) := by
  simp only [beq_eq_false_iff_ne, ne_eq] at h
  unfold stp
  omega

theorem refrot_any (x : Nat) (n : Int) (w : World) (hx : x < 4294967296) (hn0 : -9223372036854775808 ≤ n) (hn1 : n ≤ 9223372036854775807) :
    Calls Tryd.prog 42 #[.int .u32 x, .int .i64 n] w fun e w' => e = .returned (.int .u32 ((itr (n % 32).toNat x : Nat) : Int)) ∧ w = w' := by
  have ht := Int.tmod_lt_of_pos n (show (0 : Int) < 32 by omega)
  have ht2 := Int.lt_tmod_of_pos n (show (0 : Int) < 32 by omega)
  have hd := Int.mul_tdiv_add_tmod n 32
  have hK0 : ∀ K : Nat, (K : Int) = n.tmod 32 ∨ (K : Int) = n.tmod 32 + 32 ∧ n.tmod 32 < 0 → K < 32 → (n % 32).toNat = K := by intro K h hk; omega
  have HK := Lib.hid hK0
  clear hd hK0
  by_cases hneg : n.tmod 32 < 0
  · obtain ⟨K, hK⟩ : ∃ K : Nat, (K : Int) = n.tmod 32 + 32 := ⟨(n.tmod 32 + 32).toNat, by omega⟩
    have eK := HK.out K (.inr ⟨hK, hneg⟩) (by omega)
    have hK31 : K < 32 := by omega
    rw [eK]
    clear eK HK
    have HK' := Lib.hid hK
    clear hK
    go_enter Tryd.func42, Tryd.ntmps42
    go_wp2
    rw [← HK'.out]
    go_loop [0, 6] (fun y i => ∃ k : Nat, k ≤ K ∧ i = .int .i64 k ∧ y = .int .u32 ((itr k x : Nat) : Int)) (fun _ i => K - (intOf i).toNat)
    case atStart => exact ⟨0, Nat.zero_le _, rfl, rfl⟩
    case round =>
      obtain ⟨k, hk, rfl, rfl⟩ := hrel
      have hlt := itr_lt k hx
      obtain ⟨y, hy⟩ : ∃ y, y = itr k x := ⟨_, rfl⟩
      have HS : Hid (itr (k + 1) x = stp y) := by rw [hy]; rfl
      have HY := Lib.hid hy
      rw [← hy] at hlt ⊢
      clear hy
      go_wp2
      · go_round
        case rel => exact ⟨k + 1, by omega, by go_num, by rw [HS.out, ← stp_one (by assumption)]⟩
        case measure => simp [intOf]; omega
      · go_round
        case rel => exact ⟨k + 1, by omega, by go_num, by rw [HS.out, ← stp_zero (by assumption)]⟩
        case measure => simp [intOf]; omega
      · have hlt : ¬ k < K := by assumption
        have hkk : k = K := by omega
        go_ret
        exact ⟨ret_int (by rw [HY.out, hkk]), rfl⟩
  · obtain ⟨K, hK⟩ : ∃ K : Nat, (K : Int) = n.tmod 32 := ⟨(n.tmod 32).toNat, by omega⟩
    have eK := HK.out K (.inl hK) (by omega)
    have hK31 : K < 32 := by omega
    rw [eK]
    clear eK HK
    have HK' := Lib.hid hK
    clear hK
    have hneg' : 0 ≤ n.tmod 32 := by omega
    go_enter Tryd.func42, Tryd.ntmps42
    go_wp2
    rw [← HK'.out]
    go_loop [0, 6] (fun y i => ∃ k : Nat, k ≤ K ∧ i = .int .i64 k ∧ y = .int .u32 ((itr k x : Nat) : Int)) (fun _ i => K - (intOf i).toNat)
    case atStart => exact ⟨0, Nat.zero_le _, rfl, rfl⟩
    case round =>
      obtain ⟨k, hk, rfl, rfl⟩ := hrel
      have hlt := itr_lt k hx
      obtain ⟨y, hy⟩ : ∃ y, y = itr k x := ⟨_, rfl⟩
      have HS : Hid (itr (k + 1) x = stp y) := by rw [hy]; rfl
      have HY := Lib.hid hy
      rw [← hy] at hlt ⊢
      clear hy
      go_wp2
      · go_round
        case rel => exact ⟨k + 1, by omega, by go_num, by rw [HS.out, ← stp_one (by assumption)]⟩
        case measure => simp [intOf]; omega
      · go_round
        case rel => exact ⟨k + 1, by omega, by go_num, by rw [HS.out, ← stp_zero (by assumption)]⟩
        case measure => simp [intOf]; omega
      · have hlt : ¬ k < K := by assumption
        have hkk : k = K := by omega
        go_ret
        exact ⟨ret_int (by rw [HY.out, hkk]), rfl⟩
end Go.Proofs.YtdpijlkhcagfaaaDoor
