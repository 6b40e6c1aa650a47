/-
  Plain facts on numbers for layer 2 (sha): words that are mixed bit by bit, the sixty-four words of a block, its sixty-four rounds. No memory and no program here.
-/
import Derived.Test.YtdpijlkhcagfaaaDoorMath
namespace Go.Proofs.YtdpijlkhcagfaaaDoor

/-- Three turns by exclusive or. -/
def threeN (x i j k : Nat) : Nat := itr i x ^^^ itr j x ^^^ itr k x
/-- Two turns and a move, by exclusive or. -/
def twoN (x i j d : Nat) : Nat := itr i x ^^^ itr j x ^^^ x / d
/-- Of the first n bits: f's where e's is 1, else g's. -/
def pk (e f g : Nat) : Nat → Nat
  | 0 => 0
  | i + 1 => pk e f g i + (if e / 2 ^ i % 2 = 1 then f else g) / 2 ^ i % 2 * 2 ^ i
/-- Of the first n bits: what most of three have. -/
def mj (a b c : Nat) : Nat → Nat
  | 0 => 0
  | i + 1 => mj a b c i + if 2 ≤ a / 2 ^ i % 2 + b / 2 ^ i % 2 + c / 2 ^ i % 2 then 2 ^ i else 0

theorem xor_lt32 {a b : Nat} (ha : a < 4294967296) (hb : b < 4294967296) : a ^^^ b < 4294967296 := Nat.xor_lt_two_pow (n := 32) ha hb
theorem threeN_lt {x : Nat} (i j k : Nat) (h : x < 4294967296) : threeN x i j k < 4294967296 := xor_lt32 (xor_lt32 (itr_lt i h) (itr_lt j h)) (itr_lt k h)
theorem twoN_lt {x : Nat} (i j d : Nat) (h : x < 4294967296) : twoN x i j d < 4294967296 := xor_lt32 (xor_lt32 (itr_lt i h) (itr_lt j h)) (Nat.lt_of_le_of_lt (Nat.div_le_self _ _) h)

theorem bit_le (x i : Nat) : x / 2 ^ i % 2 ≤ 1 := by omega
theorem pk_lt (e f g n : Nat) : pk e f g n < 2 ^ n := by
  induction n with
  | zero => simp [pk]
  | succ n ih =>
    have h := bit_le (if e / 2 ^ n % 2 = 1 then f else g) n
    have h2 : (if e / 2 ^ n % 2 = 1 then f else g) / 2 ^ n % 2 * 2 ^ n ≤ 1 * 2 ^ n := Nat.mul_le_mul_right _ h
    rw [pk, Nat.pow_succ]
    omega
theorem mj_lt (a b c n : Nat) : mj a b c n < 2 ^ n := by
  induction n with
  | zero => simp [mj]
  | succ n ih =>
    rw [mj, Nat.pow_succ]
    split <;> omega

/-- A bit more on top. -/
theorem testBit_top (x b n j : Nat) (hx : x < 2 ^ n) (hb : b ≤ 1) : (x + b * 2 ^ n).testBit j = if j < n then x.testBit j else if j = n then decide (b = 1) else false := by
  rw [Nat.add_comm, Nat.mul_comm, Nat.testBit_two_pow_mul_add b hx j]
  split
  · rfl
  · next h =>
    rcases (show b = 0 ∨ b = 1 by omega) with rfl | rfl
    · simp
    · by_cases e : j = n
      · subst e; simp
      · obtain ⟨k, hk⟩ : ∃ k, j - n = k + 1 := ⟨j - n - 1, by omega⟩
        rw [if_neg e, hk, Nat.testBit_succ]
        simp
theorem bit_test (x i : Nat) : decide (x / 2 ^ i % 2 = 1) = x.testBit i := by
  rw [Nat.testBit_eq_decide_div_mod_eq]

theorem testBit_pk (e f g n j : Nat) : (pk e f g n).testBit j = (decide (j < n) && (if e.testBit j then f.testBit j else g.testBit j)) := by
  induction n with
  | zero => simp [pk]
  | succ n ih =>
    rw [pk, testBit_top _ _ _ _ (pk_lt e f g n) (bit_le _ _), ih]
    by_cases h : j < n
    · simp [h, show j < n + 1 by omega]
    · rw [if_neg h]
      by_cases h2 : j = n
      · subst h2
        rw [if_pos rfl, bit_test]
        simp only [← bit_test e j]
        by_cases h3 : e / 2 ^ j % 2 = 1 <;> simp [h3]
      · rw [if_neg h2]
        simp [show ¬ j < n + 1 by omega]
theorem testBit_mj (a b c n j : Nat) : (mj a b c n).testBit j = (decide (j < n) && ((a.testBit j && b.testBit j) || (a.testBit j && c.testBit j) || (b.testBit j && c.testBit j))) := by
  induction n with
  | zero => simp [mj]
  | succ n ih =>
    have e : (if 2 ≤ a / 2 ^ n % 2 + b / 2 ^ n % 2 + c / 2 ^ n % 2 then 2 ^ n else 0) = (if 2 ≤ a / 2 ^ n % 2 + b / 2 ^ n % 2 + c / 2 ^ n % 2 then 1 else 0) * 2 ^ n := by split <;> simp
    rw [mj, e, testBit_top _ _ _ _ (mj_lt a b c n) (by split <;> omega), ih]
    by_cases h : j < n
    · simp [h, show j < n + 1 by omega]
    · rw [if_neg h]
      by_cases h2 : j = n
      · subst h2
        rw [if_pos rfl, ← bit_test a j, ← bit_test b j, ← bit_test c j]
        rcases (show a / 2 ^ j % 2 = 0 ∨ a / 2 ^ j % 2 = 1 by omega) with ha | ha <;> rcases (show b / 2 ^ j % 2 = 0 ∨ b / 2 ^ j % 2 = 1 by omega) with hb | hb <;> rcases (show c / 2 ^ j % 2 = 0 ∨ c / 2 ^ j % 2 = 1 by omega) with hc | hc <;> simp [ha, hb, hc]
      · rw [if_neg h2]
        simp [show ¬ j < n + 1 by omega]
end Go.Proofs.YtdpijlkhcagfaaaDoor
