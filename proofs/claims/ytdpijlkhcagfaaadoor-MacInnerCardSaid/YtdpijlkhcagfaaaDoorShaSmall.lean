/-
  Contracts for the small functions of layer 2's reference (two, three, pick, most): each answers just the word that the plain functions give. Conditions: the arguments fit their kinds.
-/
import Derived.Test.YtdpijlkhcagfaaaDoorShaMath
import Derived.Test.YtdpijlkhcagfaaaDoorRot
namespace Go.Proofs.YtdpijlkhcagfaaaDoor
set_option linter.unusedVariables false
open Go.ChangeShapes Go.WideShapes Go.ChangeAt Go.RowKit

theorem xor32 (a b : Nat) (ha : a < 4294967296) (hb : b < 4294967296) : bits BinOp.xor IntKind.u32 (a : Int) (b : Int) = ((a ^^^ b : Nat) : Int) := u32_xor_nat a b ha hb

theorem three_any (x : Nat) (i j k : Int) (w : World) (hx : x < 4294967296) (hi0 : 0 ≤ i) (hi : i < 32) (hj0 : 0 ≤ j) (hj : j < 32) (hk0 : 0 ≤ k) (hk : k < 32) :
    Calls Tryd.prog 26 #[.int .u32 x, .int .i64 i, .int .i64 j, .int .i64 k] w fun e w' => e = .returned (.int .u32 ((threeN x i.toNat j.toNat k.toNat : Nat) : Int)) ∧ w = w' := by
  have ei : (i % 32).toNat = i.toNat := by omega
  have ej : (j % 32).toNat = j.toNat := by omega
  have ek : (k % 32).toNat = k.toNat := by omega
  have EI := Lib.hid ei
  have EJ := Lib.hid ej
  have EK := Lib.hid ek
  clear ei ej ek
  have ha := itr_lt i.toNat hx
  have hb := itr_lt j.toNat hx
  have hc := itr_lt k.toNat hx
  go_enter Tryd.func26, Tryd.ntmps26
  go_wp2_with fail
  refine (refrot_any x i _ hx (by omega) (by omega)).mono ?_
  rintro e w' ⟨rfl, rfl⟩
  rw [EI.out]
  go_wp2_with fail
  refine (refrot_any x j _ hx (by omega) (by omega)).mono ?_
  rintro e w' ⟨rfl, rfl⟩
  rw [EJ.out]
  go_wp2_with fail
  refine (refrot_any x k _ hx (by omega) (by omega)).mono ?_
  rintro e w' ⟨rfl, rfl⟩
  rw [EK.out]
  go_wp2_with fail
  go_ret
  refine ⟨ret_int ?_, rfl⟩
  rw [xor32 _ _ ha hb, xor32 _ _ (xor_lt32 ha hb) hc]
  rfl

theorem refrot_small (x : Nat) (n : Int) (W : World) (hx : x < 4294967296) (h0 : 0 ≤ n) (h : n < 32) :
    Calls Tryd.prog 42 #[.int .u32 x, .int .i64 n] W fun e w' => e = .returned (.int .u32 ((itr n.toNat x : Nat) : Int)) ∧ w' = W := by
  have h := refrot_any x n W hx (by omega) (by omega)
  rw [show (n % 32).toNat = n.toNat by omega] at h
  exact h.mono fun _ _ ⟨a, b⟩ => ⟨a, b.symm⟩

theorem two_any (x : Nat) (i j : Int) (d : Nat) (w : World) (hx : x < 4294967296) (hi0 : 0 ≤ i) (hi : i < 32) (hj0 : 0 ≤ j) (hj : j < 32) (hd : 1 ≤ d) (hd2 : d < 4294967296) :
    Calls Tryd.prog 24 #[.int .u32 x, .int .i64 i, .int .i64 j, .int .u32 d] w fun e w' => e = .returned (.int .u32 ((twoN x i.toNat j.toNat d : Nat) : Int)) ∧ ∃ n, w' = w.drewN n := by
  have ha := itr_lt i.toNat hx
  have hb := itr_lt j.toNat hx
  have hq : x / d < 4294967296 := Nat.lt_of_le_of_lt (Nat.div_le_self _ _) hx
  have hd0 : ¬ (d : Int) = 0 := by omega
  go_enter Tryd.func24, Tryd.ntmps24
  go_wp2_with fail
  go_quiet ((go_at_call 42; exact Calls.quiet_of_same (refrot_small _ _ _ hx (by assumption) (by assumption))))
  go_wp2_with fail
  go_ret
  refine ⟨ret_int ?_, _, rfl⟩
  have e : (x : Int) / (d : Int) % 4294967296 = ((x / d : Nat) : Int) := by
    rw [← Int.natCast_ediv]; exact Int.emod_eq_of_lt (Int.natCast_nonneg _) (Int.ofNat_lt.2 hq)
  rw [xor32 _ _ ha hb, e, xor32 _ _ (xor_lt32 ha hb) hq]
  rfl

/-- The bit of a loop that goes through all 32, one place further up each time, and ends at 0. -/
def bitOf (k : Nat) : Nat := if k = 32 then 0 else 2 ^ k
def leftN (n : Nat) : Nat := if n = 0 then 0 else 4294967296 - n
def left (v : Value) : Nat := leftN (intOf v).toNat
theorem left_nat (k : IntKind) (n : Nat) : left (.int k (n : Int)) = leftN n := rfl

theorem bitOf_lt {k : Nat} (h : k < 32) : bitOf k = 2 ^ k := by unfold bitOf; rw [if_neg (by omega)]
theorem pow_le31 {k : Nat} (h : k < 32) : 1 ≤ 2 ^ k ∧ 2 ^ k ≤ 2147483648 := ⟨Nat.one_le_two_pow, Nat.pow_le_pow_right (n := 2) (by omega) (show k ≤ 31 by omega)⟩
theorem bit_next {k : Nat} (h : k < 32) : 2 * ((2 ^ k : Nat) : Int) % 4294967296 = ((bitOf (k + 1) : Nat) : Int) := by
  have e : 2 ^ (k + 1) = 2 * 2 ^ k := by rw [Nat.pow_succ, Nat.mul_comm]
  unfold bitOf
  by_cases h1 : k + 1 = 32
  · have : k = 31 := by omega
    subst this
    decide
  · rw [if_neg h1, e]
    have := (pow_le31 (k := k + 1) (by omega)).2
    omega
theorem left_next {k : Nat} (h : k < 32) : left (.int .u32 ((bitOf (k + 1) : Nat) : Int)) < left (.int .u32 ((2 ^ k : Nat) : Int)) := by
  have hp := pow_le31 h
  have e : 2 ^ (k + 1) = 2 * 2 ^ k := by rw [Nat.pow_succ, Nat.mul_comm]
  rw [left_nat, left_nat]
  unfold leftN bitOf
  by_cases h1 : k + 1 = 32
  · rw [if_pos h1, if_pos rfl, if_neg (by omega)]
    omega
  · rw [if_neg h1, if_neg (by omega), if_neg (by omega)]
    omega

theorem cast_bit (x k : Nat) : (x : Int) / ((2 ^ k : Nat) : Int) % 2 = ((x / 2 ^ k % 2 : Nat) : Int) := by simp

set_option maxRecDepth 20000 in
theorem pick_any (e f g : Nat) (w : World) (he : e < 4294967296) (hf : f < 4294967296) (hg : g < 4294967296) :
    Calls Tryd.prog 27 #[.int .u32 e, .int .u32 f, .int .u32 g] w fun en w' => en = .returned (.int .u32 ((pk e f g 32 : Nat) : Int)) ∧ w = w' := by
  go_enter Tryd.func27, Tryd.ntmps27
  go_wp2
  go_loop [7, 8] (fun o b => ∃ k : Nat, k ≤ 32 ∧ b = .int .u32 ((bitOf k : Nat) : Int) ∧ o = .int .u32 ((pk e f g k : Nat) : Int)) (fun _ b => left b)
  case atStart => exact ⟨0, Nat.zero_le _, rfl, rfl⟩
  case round =>
    obtain ⟨k, hk, rfl, rfl⟩ := hrel
    by_cases hlt : k < 32
    · have hp := pow_le31 hlt
      have hpk := pk_lt e f g k
      have hn := bit_next hlt
      have hl := left_next hlt
      have ce := cast_bit e k
      have cf := cast_bit f k
      have cg := cast_bit g k
      have hs : pk e f g (k + 1) = pk e f g k + (if e / 2 ^ k % 2 = 1 then f / 2 ^ k % 2 else g / 2 ^ k % 2) * 2 ^ k := by rw [pk]; split <;> rfl
      have be := bit_le e k
      have bf := bit_le f k
      have bg := bit_le g k
      rw [bitOf_lt hlt]
      generalize 2 ^ k = p at *
      generalize pk e f g k = y at *
      generalize e / p % 2 = be' at *
      generalize f / p % 2 = bf' at *
      generalize g / p % 2 = bg' at *
      rcases (show be' = 0 ∨ be' = 1 by omega) with rfl | rfl
      · rcases (show bg' = 0 ∨ bg' = 1 by omega) with rfl | rfl
        all_goals
          simp only [Nat.zero_ne_one, if_false, Nat.zero_mul, Nat.one_mul, Nat.add_zero] at hs
          have HS := Lib.hid hs
          have HN := Lib.hid hn
          have HL := Lib.hid hl
          clear hs hn hl
          go_wp2
          go_round
          case rel => exact ⟨k + 1, by omega, by rw [HN.out], by rw [HS.out]; try go_num⟩
          case measure => rw [HN.out]; exact HL.out
      · rcases (show bf' = 0 ∨ bf' = 1 by omega) with rfl | rfl
        all_goals
          simp only [if_true, Nat.zero_mul, Nat.one_mul, Nat.add_zero] at hs
          have HS := Lib.hid hs
          have HN := Lib.hid hn
          have HL := Lib.hid hl
          clear hs hn hl
          go_wp2
          go_round
          case rel => exact ⟨k + 1, by omega, by rw [HN.out], by rw [HS.out]; try go_num⟩
          case measure => rw [HN.out]; exact HL.out
    · have ek : k = 32 := by omega
      subst ek
      have hz : bitOf 32 = 0 := rfl
      go_wp2
      go_ret
      exact ⟨rfl, rfl⟩

set_option maxRecDepth 20000 in
theorem most_any (a b c : Nat) (w : World) (ha : a < 4294967296) (hb : b < 4294967296) (hc : c < 4294967296) :
    Calls Tryd.prog 28 #[.int .u32 a, .int .u32 b, .int .u32 c] w fun en w' => en = .returned (.int .u32 ((mj a b c 32 : Nat) : Int)) ∧ ∃ n, w' = w.drewN n := by
  go_enter Tryd.func28, Tryd.ntmps28
  go_wp2
  go_loopw [7, 8] (fun o b' wr => ∃ k n : Nat, k ≤ 32 ∧ b' = .int .u32 ((bitOf k : Nat) : Int) ∧ o = .int .u32 ((mj a b c k : Nat) : Int) ∧ wr = w.drewN n) (fun _ b' _ => left b')
  case atStart => exact ⟨0, 0, Nat.zero_le _, rfl, rfl, rfl⟩
  case round =>
    obtain ⟨k, n, hk, rfl, rfl, rfl⟩ := hrel
    by_cases hlt : k < 32
    · have hp := pow_le31 hlt
      have hmj := mj_lt a b c k
      have hn := bit_next hlt
      have hl := left_next hlt
      have ca := cast_bit a k
      have cb := cast_bit b k
      have cc := cast_bit c k
      have hs : mj a b c (k + 1) = mj a b c k + if 2 ≤ a / 2 ^ k % 2 + b / 2 ^ k % 2 + c / 2 ^ k % 2 then 2 ^ k else 0 := rfl
      have ba := bit_le a k
      have bb := bit_le b k
      have bc := bit_le c k
      rw [bitOf_lt hlt]
      generalize 2 ^ k = p at *
      generalize mj a b c k = y at *
      generalize a / p % 2 = a' at *
      generalize b / p % 2 = b' at *
      generalize c / p % 2 = c' at *
      have hp0 : ¬ (p : Int) = 0 := by omega
      have HN := Lib.hid hn
      have HL := Lib.hid hl
      clear hn hl
      rcases (show a' = 0 ∨ a' = 1 by omega) with rfl | rfl <;> rcases (show b' = 0 ∨ b' = 1 by omega) with rfl | rfl <;> rcases (show c' = 0 ∨ c' = 1 by omega) with rfl | rfl
      all_goals
        simp only [Nat.reduceAdd, Nat.reduceLeDiff, if_true, if_false, Nat.add_zero] at hs
        have HS := Lib.hid hs
        clear hs
        go_wp2
        go_quiet (fail)
        go_wp2
        go_roundw
        case rel => exact ⟨k + 1, _, by omega, by rw [HN.out], by rw [HS.out]; try go_num, rfl⟩
        case measure => rw [HN.out]; exact HL.out
    · have ek : k = 32 := by omega
      subst ek
      have hz : bitOf 32 = 0 := rfl
      go_wp2
      go_ret
      exact ⟨rfl, _, rfl⟩
end Go.Proofs.YtdpijlkhcagfaaaDoor
