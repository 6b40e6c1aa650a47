/-
  Contracts for cmp.Or of two numbers: the first one that is not 0. Conditions: the two lie side by side in memory.
-/
import Derived.Test.YtjlcaobffhihhaaMem
import Derived.Test.YtjlcaobffhihhaaIn64
namespace Go.Proofs.Ytjlcaobffhihhaa
set_option linter.unusedVariables false
open Go.ChangeShapes Go.WideShapes Go.ChangeAt Go.RowKit

set_option maxRecDepth 100000 in
set_option maxHeartbeats 1600000 in
theorem or_first (x : Int) (X : Nat) (w : World) (hx : x ≠ 0) (c0 : w.cell? ⟨X, 0, none⟩ = some (.int .i64 x)) : Calls Try.prog 21 #[.slice (some ⟨X, 0, none⟩) 2 2] w fun e w' => e = .returned (.int .i64 x) ∧ w = w' := by
  have s1 : (x == 0) = false := by rw [beq_eq_false_iff_ne]; exact hx
  have s2 : (x != 0) = true := by rw [bne_iff_ne]; exact hx
  have C0 := Lib.hid c0
  clear hx c0
  go_enter Try.func21, Try.ntmps21
  go_wp2
  go_loopw [8] (fun i wr => i = .int .i64 0 ∧ w = wr) (fun _ _ => 0)
  case atStart => exact ⟨rfl, rfl⟩
  case round =>
    obtain ⟨rfl, rfl⟩ := hrel
    have c0 := C0.out
    go_wp2
    go_ret
    exact ⟨rfl, rfl⟩
set_option maxRecDepth 100000 in
set_option maxHeartbeats 1600000 in
theorem or_second (x : Int) (X : Nat) (w : World) (hx : x ≠ 0) (c0 : w.cell? ⟨X, 0, none⟩ = some (.int .i64 0)) (c1 : w.cell? ⟨X, 1, none⟩ = some (.int .i64 x)) : Calls Try.prog 21 #[.slice (some ⟨X, 0, none⟩) 2 2] w fun e w' => e = .returned (.int .i64 x) ∧ w = w' := by
  have s1 : (x == 0) = false := by rw [beq_eq_false_iff_ne]; exact hx
  have s2 : (x != 0) = true := by rw [bne_iff_ne]; exact hx
  have C0 := Lib.hid c0
  have C1 := Lib.hid c1
  clear hx c0 c1
  go_enter Try.func21, Try.ntmps21
  go_wp2
  go_loopw [8] (fun i wr => (i = .int .i64 0 ∨ i = .int .i64 1) ∧ w = wr) (fun i _ => (1 - intOf i).toNat)
  case atStart => exact ⟨.inl rfl, rfl⟩
  case round =>
    obtain ⟨h, rfl⟩ := hrel
    have c0 := C0.out
    have c1 := C1.out
    rcases h with rfl | rfl
    · go_wp2
      go_roundw
      case rel => first | exact ⟨.inr rfl, rfl⟩ | exact ⟨.inr rfl, trivial⟩ | simp
      case measure => simp [intOf]
    · go_wp2
      go_ret
      exact ⟨rfl, rfl⟩
end Go.Proofs.Ytjlcaobffhihhaa
