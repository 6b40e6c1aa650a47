/-
  Numbers that fit an int. No program here.
-/
namespace Go.Proofs.Ytaokhkbfiplfmaa
def In64 (x : Int) : Prop := -9223372036854775808 ≤ x ∧ x ≤ 9223372036854775807
theorem in64_nat {k : Nat} (h : k ≤ 9223372036854775807) : In64 (k : Int) := by unfold In64; omega
end Go.Proofs.Ytaokhkbfiplfmaa
