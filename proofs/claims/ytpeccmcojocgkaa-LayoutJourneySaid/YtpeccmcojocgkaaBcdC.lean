/-
  The comparisons as the laws ask them; the laws' constants, reckoned plainly. No program but the references' comparison of bytes; conditions: none.
-/
import Derived.Test.YtpeccmcojocgkaaBcdVals
import Derived.Test.YtpeccmcojocgkaaSameAny
import Derived.Test.YtpeccmcojocgkaaBcdSameInts
namespace Go.Proofs.Ytpeccmcojocgkaa
set_option linter.unusedVariables false
open Go.ChangeShapes Go.WideShapes Go.ChangeAt Go.RowKit

set_option maxRecDepth 100000 in
set_option maxHeartbeats 1600000 in
theorem same_true (s : List Nat) (n n' : Nat) (hn : n = s.length) (hn' : n' = s.length) (A A' : Option Addr) (c c' : Nat) (w : World) (hA : Bs w w.heap.size s A c) (hA' : Bs w w.heap.size s A' c') : Calls Try.prog 13 #[.slice A n c, .slice A' n' c'] w fun e w' => e = .returned (.bool true) ∧ Below w.heap.size w w' := by
  have h1 := hA.len
  have h2 := hA.cap
  have := same_any s s n n' hn hn' A A' c c' w.heap.size w hA.rd hA'.rd (by omega) (by omega)
  simpa using this
set_option maxRecDepth 100000 in
set_option maxHeartbeats 1600000 in
theorem samen_true (s : List Int) (n n' : Nat) (hn : n = s.length) (hn' : n' = s.length) (A A' : Option Addr) (c c' : Nat) (w : World) (hA : Zs w w.heap.size s A c) (hA' : Zs w w.heap.size s A' c') : Calls Try.prog 14 #[.slice A n c, .slice A' n' c'] w fun e w' => e = .returned (.bool true) ∧ Below w.heap.size w w' :=
  samen_any s s n n' hn hn' true (by simp) A A' c c' w hA hA'
theorem coded_c : putE 40 4 = 0 ∧ putL 40 4 = [0, 0, 4, 0] ∧ putE 100 2 = 23 ∧ putL 100 2 = [] ∧ getX [0, 4, 0] = (0, 40) ∧ getX [10] = (7, 0) ∧ joinX [7, 12] [1, 3] = (0, [7, 0, 1, 2]) ∧ splitX [7, 0, 1, 2] [1, 3] = (0, [7, 12]) ∧ splitX [7, 0, 1] [1, 3] = (14, []) ∧ joinX [7] [1, 3] = (1, []) := ⟨by kernel_rfl, by kernel_rfl, by kernel_rfl, by kernel_rfl, by kernel_rfl, by kernel_rfl, by kernel_rfl, by kernel_rfl, by kernel_rfl, by kernel_rfl⟩
theorem in64_a : ∀ v ∈ ([7, 12] : List Int), In64 v := by
  intro v hv
  simp at hv
  rcases hv with rfl | rfl <;> (unfold In64; omega)
theorem in64_b : ∀ v ∈ ([7] : List Int), In64 v := by
  intro v hv
  simp at hv
  subst hv
  unfold In64; omega
end Go.Proofs.Ytpeccmcojocgkaa
