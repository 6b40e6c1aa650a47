/-
  Contract for the landed leastTelling of two numbers. Conditions: the two lie side by side in memory.
-/
import Derived.Test.YtaokhkbfiplfmaaMem
import Derived.Test.YtaokhkbfiplfmaaIn64
namespace Go.Proofs.Ytaokhkbfiplfmaa
set_option linter.unusedVariables false
open Go.ChangeShapes Go.WideShapes Go.ChangeAt Go.RowKit

set_option maxRecDepth 100000 in
set_option maxHeartbeats 1600000 in
theorem ptell_any (a b v : Int) (hv : (if b ≠ 0 then 3 else if a ≠ 0 then 2 else 1) = v) (X : Nat) (w : World) (c0 : w.cell? ⟨X, 0, none⟩ = some (.int .i64 a)) (c1 : w.cell? ⟨X, 1, none⟩ = some (.int .i64 b)) : Calls Try.prog 13 #[.slice (some ⟨X, 0, none⟩) 2 2] w fun e w' => e = .returned (.int .i64 v) ∧ w = w' := by
  have C0 := Lib.hid c0
  have C1 := Lib.hid c1
  clear c0 c1
  cases hx : (a != 0) <;> cases hy : (b != 0)
  all_goals
    simp only [ne_eq, ← bne_iff_ne, hx, hy, if_true, if_false, Bool.false_eq_true] at hv
    subst hv
    go_enter Try.func13, Try.ntmps13
    go_wp2
    go_loopw [3, 8] (fun l i wr => ((i = .int .i64 0 ∧ l = .int .i64 1) ∨ (i = .int .i64 1 ∧ l = .int .i64 (if (a != 0) = true then 2 else 1)) ∨ (i = .int .i64 2 ∧ l = .int .i64 (if (b != 0) = true then 3 else if (a != 0) = true then 2 else 1))) ∧ w = wr) (fun l i _ => (2 - intOf i).toNat)
    case atStart => exact ⟨.inl ⟨rfl, rfl⟩, rfl⟩
    case round =>
      obtain ⟨h, rfl⟩ := hrel
      have c0 := C0.out
      have c1 := C1.out
      rw [hx, hy] at h
      rcases h with ⟨rfl, rfl⟩ | ⟨rfl, rfl⟩ | ⟨rfl, rfl⟩
      · go_wp2
        go_roundw
        case rel => first | exact ⟨.inr (.inl ⟨rfl, by rw [hx]; rfl⟩), rfl⟩ | simp [hx, hy]
        case measure => simp [intOf]
      · go_wp2
        go_roundw
        case rel => first | exact ⟨.inr (.inr ⟨rfl, by rw [hx, hy]; rfl⟩), rfl⟩ | simp [hx, hy]
        case measure => simp [intOf]
      · go_wp2
        go_ret
        exact ⟨rfl, rfl⟩
end Go.Proofs.Ytaokhkbfiplfmaa
