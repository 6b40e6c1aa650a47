/-
  Plain facts for layer 5 (ring): keys, rings, and what is found in them. No memory and no program here.
-/
import Derived.Test.YtedkgkokfaadfaaMath
namespace Go.Proofs.Ytedkgkokfaadfaa

/-- A key's four parts: its number, its secret, its days. -/
structure K where
  id : Int
  sec : List Nat
  frm : Int
  til : Int
def K0 : K := ⟨0, [], 0, 0⟩
/-- A key that is right. -/
def rightN (id : Int) (n : Nat) (f t : Int) : Bool := decide (0 ≤ id) && (decide (id ≤ 99) && (decide (1 ≤ n) && (decide (n ≤ 64) && (decide (0 ≤ f) && (decide (f ≤ t) && decide (t ≤ 99999))))))
def K.right (k : K) : Bool := rightN k.id k.sec.length k.frm k.til
theorem rightN_iff (id : Int) (n : Nat) (f t : Int) : rightN id n f t = true ↔ 0 ≤ id ∧ id ≤ 99 ∧ 1 ≤ n ∧ n ≤ 64 ∧ 0 ≤ f ∧ f ≤ t ∧ t ≤ 99999 := by simp [rightN]
end Go.Proofs.Ytedkgkokfaadfaa
