/-
  Contract for the landed months: the days of each month of a year, as an array; and reading one of them. Conditions: none.
-/
import Derived.Test.YtiekfcpinljcjaaDayPSmall
import Derived.Test.YtiekfcpinljcjaaArr
namespace Go.Proofs.Ytiekfcpinljcjaa
set_option linter.unusedVariables false
open Go.ChangeShapes Go.WideShapes Go.ChangeAt Go.RowKit

/-- The array. -/
def mA (f : Nat) : Array Value := #[.int .i64 31, .int .i64 (f : Int), .int .i64 31, .int .i64 30, .int .i64 31, .int .i64 30, .int .i64 31, .int .i64 31, .int .i64 30, .int .i64 31, .int .i64 30, .int .i64 31]
theorem run_index_mA (f : Nat) : ∀ k : Nat, k < 12 → ∀ w : World, (Instr.index 35 (.agg (mA f)) (.int .i64 (k : Int))).run Try.prog w = .ok (.int .i64 (((mls f).getD k 0 : Nat) : Int)) w
  | 0, _ => fun w => by kernel_rfl
  | 1, _ => fun w => by kernel_rfl
  | 2, _ => fun w => by kernel_rfl
  | 3, _ => fun w => by kernel_rfl
  | 4, _ => fun w => by kernel_rfl
  | 5, _ => fun w => by kernel_rfl
  | 6, _ => fun w => by kernel_rfl
  | 7, _ => fun w => by kernel_rfl
  | 8, _ => fun w => by kernel_rfl
  | 9, _ => fun w => by kernel_rfl
  | 10, _ => fun w => by kernel_rfl
  | 11, _ => fun w => by kernel_rfl
  | k + 12, h => absurd h (by omega)
set_option maxHeartbeats 400000 in
theorem pmonths_any (y : Int) (f : Nat) (hf : feb y = f) (w : World) : Calls Try.prog 17 #[.int .i64 y] w fun e w' => e = .returned (.agg (mA f)) ∧ Below w.heap.size w w' := by
  have HF := Lib.hid hf
  clear hf
  cases hl : leapN y with
  | false =>
    have hf : f = 28 := by rw [← HF.out, feb, hl]; rfl
    subst hf
    have HL := Lib.hid hl
    clear hl
    go_enter Try.func17, Try.ntmps17
    go_wp2_with (go_at_call 12; refine (pleap_same y false HL.out _).mono ?_; rintro e w1 ⟨rfl, rfl⟩)
    exact bodyPost_ret (v := .agg (mA 28)) (by simp [results, Try.results17, go_sem, mA]) rfl ⟨rfl, ((Below.refl _ _).alloc (Nat.le_refl _) _).alloc (by simp) _⟩
  | true =>
    have hf : f = 29 := by rw [← HF.out, feb, hl]; rfl
    subst hf
    have HL := Lib.hid hl
    clear hl
    go_enter Try.func17, Try.ntmps17
    go_wp2_with (go_at_call 12; refine (pleap_same y true HL.out _).mono ?_; rintro e w1 ⟨rfl, rfl⟩)
    exact bodyPost_ret (v := .agg (mA 29)) (by simp [results, Try.results17, go_sem, mA]) rfl ⟨rfl, ((Below.refl _ _).alloc (Nat.le_refl _) _).alloc (by simp) _⟩
end Go.Proofs.Ytiekfcpinljcjaa
