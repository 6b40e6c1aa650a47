/-
  Plain facts about counting and joining five bits. No program of its own; conditions: none.
-/
import Derived.Test.YtjlcaobffhihhaaBitsBox
namespace Go.Proofs.Ytjlcaobffhihhaa

/-- How many of the first k bits are 1. -/
def cntUp (b : B5) : Nat → Nat
  | 0 => 0
  | k + 1 => cntUp b k + (getB b k).toNat
/-- The number of the first k bits. -/
def orUp (b : B5) : Nat → Nat
  | 0 => 0
  | k + 1 => if getB b k = true then orUp b k ||| 2 ^ k else orUp b k
/-- The bits of n below the fifth, and the fifth that makes their number odd. -/
def gB (n : Nat) : B5 := setB (upB n 5) (cntUp (upB n 5) 5 % 2 == 0) 4
theorem cntUp_le (b : B5) (k : Nat) : cntUp b k ≤ k := by
  induction k with
  | zero => exact Nat.le_refl 0
  | succ k ih =>
    show cntUp b k + (getB b k).toNat ≤ k + 1
    cases getB b k
    · show cntUp b k + 0 ≤ k + 1; omega
    · show cntUp b k + 1 ≤ k + 1; omega
theorem orUp_lt (b : B5) {k : Nat} (hk : k ≤ 5) : orUp b k < 32 := by
  obtain ⟨b0, b1, b2, b3, b4⟩ := b
  rcases (show k = 0 ∨ k = 1 ∨ k = 2 ∨ k = 3 ∨ k = 4 ∨ k = 5 by omega) with rfl | rfl | rfl | rfl | rfl | rfl <;> cases b0 <;> cases b1 <;> cases b2 <;> cases b3 <;> cases b4 <;> decide
theorem orUp_all (b : B5) : ((orUp b 5 : Nat) : Int) = ofB b := by
  obtain ⟨b0, b1, b2, b3, b4⟩ := b
  cases b0 <;> cases b1 <;> cases b2 <;> cases b3 <;> cases b4 <;> decide
theorem gB_char : ∀ n : Nat, n < 16 → ofB (gB n) = charV (n : Int) := by decide
theorem gB_value : ∀ n : Nat, n < 32 → (upB n 5 = gB (n % 16)) = (ones5 n % 2 = 1) := by
  intro n hn
  have : ∀ n : Nat, n < 32 → (decide (upB n 5 = gB (n % 16)) = decide (ones5 n % 2 = 1)) := by decide
  simpa using this n hn
theorem or_small : ∀ a : Nat, a < 32 → ∀ k : Nat, k < 5 → bits BinOp.or IntKind.i64 (a : Int) (2 ^ k) = ((a ||| 2 ^ k : Nat) : Int) := by decide
theorem and_small : ∀ n : Nat, n < 32 → ∀ k : Nat, k < 5 → (bits BinOp.and IntKind.i64 ((n : Int) / 2 ^ k) 1 == 1) = bitB n k := by decide
theorem shl_small : ∀ k : Nat, k < 5 → IntKind.i64.wrap ((1 : Int) * 2 ^ k) = 2 ^ k := by decide
end Go.Proofs.Ytjlcaobffhihhaa
