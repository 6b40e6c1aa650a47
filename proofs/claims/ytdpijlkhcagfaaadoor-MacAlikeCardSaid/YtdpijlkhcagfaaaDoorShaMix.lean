/-
  Contracts for the small functions of package sha (stirEarly, stirLate, turnLow, turnHigh, choose, most): each answers just the word that the plain functions give. Conditions: the arguments fit 32 bits.
-/
import Derived.Test.YtdpijlkhcagfaaaDoorShaSmall
namespace Go.Proofs.YtdpijlkhcagfaaaDoor
set_option linter.unusedVariables false
open Go.ChangeShapes Go.WideShapes Go.ChangeAt Go.RowKit

theorem rot_small (x : Nat) (n : Int) (w : World) (hx : x < 4294967296) (h0 : 0 ≤ n) (h : n < 32) :
    Calls Tryd.prog 48 #[.int .u32 x, .int .i64 n] w fun e w' => e = .returned (.int .u32 ((itr n.toNat x : Nat) : Int)) ∧ w = w' := by
  have h := rot_any x n w hx (by omega) (by omega)
  rw [show (n % 32).toNat = n.toNat by omega] at h
  exact h

theorem stirEarly_any (x : Nat) (w : World) (hx : x < 4294967296) :
    Calls Tryd.prog 36 #[.int .u32 x] w fun e w' => e = .returned (.int .u32 ((twoN x 7 18 8 : Nat) : Int)) ∧ w = w' := by
  have ha := itr_lt 7 hx
  have hb := itr_lt 18 hx
  have hq : x / 8 < 4294967296 := by omega
  go_enter Tryd.func36, Tryd.ntmps36
  go_wp2_with fail
  refine (rot_small x 7 _ hx (by omega) (by omega)).mono ?_
  rintro e w' ⟨rfl, rfl⟩
  go_wp2_with fail
  refine (rot_small x 18 _ hx (by omega) (by omega)).mono ?_
  rintro e w' ⟨rfl, rfl⟩
  go_wp2_with fail
  go_ret
  refine ⟨ret_int ?_, rfl⟩
  rw [show (x : Int) / 8 = ((x / 8 : Nat) : Int) by omega, xor32 _ _ ha hb, xor32 _ _ (xor_lt32 ha hb) hq]
  rfl

theorem stirLate_any (x : Nat) (w : World) (hx : x < 4294967296) :
    Calls Tryd.prog 37 #[.int .u32 x] w fun e w' => e = .returned (.int .u32 ((twoN x 17 19 1024 : Nat) : Int)) ∧ w = w' := by
  have ha := itr_lt 17 hx
  have hb := itr_lt 19 hx
  have hq : x / 1024 < 4294967296 := by omega
  go_enter Tryd.func37, Tryd.ntmps37
  go_wp2_with fail
  refine (rot_small x 17 _ hx (by omega) (by omega)).mono ?_
  rintro e w' ⟨rfl, rfl⟩
  go_wp2_with fail
  refine (rot_small x 19 _ hx (by omega) (by omega)).mono ?_
  rintro e w' ⟨rfl, rfl⟩
  go_wp2_with fail
  go_ret
  refine ⟨ret_int ?_, rfl⟩
  rw [show (x : Int) / 1024 = ((x / 1024 : Nat) : Int) by omega, xor32 _ _ ha hb, xor32 _ _ (xor_lt32 ha hb) hq]
  rfl

theorem turnLow_any (x : Nat) (w : World) (hx : x < 4294967296) :
    Calls Tryd.prog 38 #[.int .u32 x] w fun e w' => e = .returned (.int .u32 ((threeN x 6 11 25 : Nat) : Int)) ∧ w = w' := by
  have ha := itr_lt 6 hx
  have hb := itr_lt 11 hx
  have hc := itr_lt 25 hx
  go_enter Tryd.func38, Tryd.ntmps38
  go_wp2_with fail
  refine (rot_small x 6 _ hx (by omega) (by omega)).mono ?_
  rintro e w' ⟨rfl, rfl⟩
  go_wp2_with fail
  refine (rot_small x 11 _ hx (by omega) (by omega)).mono ?_
  rintro e w' ⟨rfl, rfl⟩
  go_wp2_with fail
  refine (rot_small x 25 _ hx (by omega) (by omega)).mono ?_
  rintro e w' ⟨rfl, rfl⟩
  go_wp2_with fail
  go_ret
  refine ⟨ret_int ?_, rfl⟩
  rw [xor32 _ _ ha hb, xor32 _ _ (xor_lt32 ha hb) hc]
  rfl

theorem turnHigh_any (x : Nat) (w : World) (hx : x < 4294967296) :
    Calls Tryd.prog 40 #[.int .u32 x] w fun e w' => e = .returned (.int .u32 ((threeN x 2 13 22 : Nat) : Int)) ∧ w = w' := by
  have ha := itr_lt 2 hx
  have hb := itr_lt 13 hx
  have hc := itr_lt 22 hx
  go_enter Tryd.func40, Tryd.ntmps40
  go_wp2_with fail
  refine (rot_small x 2 _ hx (by omega) (by omega)).mono ?_
  rintro e w' ⟨rfl, rfl⟩
  go_wp2_with fail
  refine (rot_small x 13 _ hx (by omega) (by omega)).mono ?_
  rintro e w' ⟨rfl, rfl⟩
  go_wp2_with fail
  refine (rot_small x 22 _ hx (by omega) (by omega)).mono ?_
  rintro e w' ⟨rfl, rfl⟩
  go_wp2_with fail
  go_ret
  refine ⟨ret_int ?_, rfl⟩
  rw [xor32 _ _ ha hb, xor32 _ _ (xor_lt32 ha hb) hc]
  rfl

theorem choose_nat (e f g : Nat) (he : e < 4294967296) (hf : f < 4294967296) (hg : g < 4294967296) : (e &&& f) ||| ((4294967295 ^^^ e) &&& g) = pk e f g 32 := by
  apply Nat.eq_of_testBit_eq
  intro j
  rw [testBit_pk, Nat.testBit_or, Nat.testBit_and, Nat.testBit_and, Nat.testBit_xor, show 4294967295 = 2 ^ 32 - 1 by rfl, Nat.testBit_two_pow_sub_one]
  by_cases h : j < 32
  · simp only [h, decide_true, Bool.true_and]
    cases e.testBit j <;> simp
  · have z : ∀ x : Nat, x < 4294967296 → x.testBit j = false := fun x hx => Nat.testBit_lt_two_pow (Nat.lt_of_lt_of_le hx (Nat.pow_le_pow_right (n := 2) (by omega) (show 32 ≤ j by omega)))
    simp [h, z e he, z f hf, z g hg]
theorem most_nat (a b c : Nat) (ha : a < 4294967296) (hb : b < 4294967296) (hc : c < 4294967296) : (a &&& b) ||| (a &&& c) ||| (b &&& c) = mj a b c 32 := by
  apply Nat.eq_of_testBit_eq
  intro j
  rw [testBit_mj]
  simp only [Nat.testBit_or, Nat.testBit_and]
  by_cases h : j < 32
  · simp only [h, decide_true, Bool.true_and]
  · have z : ∀ x : Nat, x < 4294967296 → x.testBit j = false := fun x hx => Nat.testBit_lt_two_pow (Nat.lt_of_lt_of_le hx (Nat.pow_le_pow_right (n := 2) (by omega) (show 32 ≤ j by omega)))
    simp [h, z a ha, z b hb, z c hc]

theorem and_lt32 {a b : Nat} (ha : a < 4294967296) : a &&& b < 4294967296 := Nat.lt_of_le_of_lt Nat.and_le_left ha
theorem or_lt32 {a b : Nat} (ha : a < 4294967296) (hb : b < 4294967296) : a ||| b < 4294967296 := Nat.or_lt_two_pow (n := 32) ha hb

theorem choose_any (e f g : Nat) (w : World) (he : e < 4294967296) (hf : f < 4294967296) (hg : g < 4294967296) :
    Calls Tryd.prog 39 #[.int .u32 e, .int .u32 f, .int .u32 g] w fun en w' => en = .returned (.int .u32 ((pk e f g 32 : Nat) : Int)) ∧ w = w' := by
  go_enter Tryd.func39, Tryd.ntmps39
  go_wp2
  go_ret
  refine ⟨ret_int ?_, rfl⟩
  have hm : IntKind.u32.max = ((4294967295 : Nat) : Int) := rfl
  rw [hm, xor32 _ _ (by omega) he, u32_and_nat _ _ he hf, u32_and_nat _ _ (xor_lt32 (by omega) he) hg, u32_or_nat _ _ (and_lt32 he) (and_lt32 (xor_lt32 (by omega) he)), choose_nat e f g he hf hg]

theorem pmost_any (a b c : Nat) (w : World) (ha : a < 4294967296) (hb : b < 4294967296) (hc : c < 4294967296) :
    Calls Tryd.prog 41 #[.int .u32 a, .int .u32 b, .int .u32 c] w fun en w' => en = .returned (.int .u32 ((mj a b c 32 : Nat) : Int)) ∧ w = w' := by
  go_enter Tryd.func41, Tryd.ntmps41
  go_wp2
  go_ret
  refine ⟨ret_int ?_, rfl⟩
  rw [u32_and_nat _ _ ha hb, u32_and_nat _ _ ha hc, u32_and_nat _ _ hb hc, u32_or_nat _ _ (and_lt32 ha) (and_lt32 ha), u32_or_nat _ _ (or_lt32 (and_lt32 ha) (and_lt32 ha)) (and_lt32 hb), most_nat a b c ha hb hc]
end Go.Proofs.YtdpijlkhcagfaaaDoor
