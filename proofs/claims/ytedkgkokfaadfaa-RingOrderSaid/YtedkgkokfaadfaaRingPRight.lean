/-
  Contract for the landed right: whether a key is right. Conditions: the numbers fit an int.
-/
import Derived.Test.YtedkgkokfaadfaaMem
import Derived.Test.YtedkgkokfaadfaaRingMath
namespace Go.Proofs.Ytedkgkokfaadfaa
set_option linter.unusedVariables false
open Go.ChangeShapes Go.WideShapes Go.ChangeAt Go.RowKit

set_option maxRecDepth 20000 in
theorem pright_any (id f t : Int) (n : Nat) (A : Option Addr) (c : Nat) (w : World) (hn : n ≤ 9223372036854775807) :
    Calls Try.prog 25 #[.agg #[.int .i64 id, .slice A n c, .int .i64 f, .int .i64 t]] w fun e w' => e = .returned (.bool (rightN id n f t)) ∧ Below w.heap.size w w' := by
  go_enter Try.func25, Try.ntmps25
  go_wp2
  all_goals
    go_ret
    refine ⟨congrArg Ending.returned (congrArg Value.bool ?_), (Below.refl _ _).alloc (Nat.le_refl _) _⟩
    rw [Bool.eq_iff_iff]
    simp [rightN]
    try omega
end Go.Proofs.Ytedkgkokfaadfaa
