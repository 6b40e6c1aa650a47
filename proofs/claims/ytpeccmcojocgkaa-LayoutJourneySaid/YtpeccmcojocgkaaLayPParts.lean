/-
  Contracts for the landed methods that tell a part's fields. Conditions: none.
-/
import Derived.Test.YtpeccmcojocgkaaLayBox
import Derived.BigRegion
import Derived.RegionTactic
namespace Go.Proofs.Ytpeccmcojocgkaa
set_option linter.unusedVariables false
open Go.ChangeShapes Go.WideShapes Go.ChangeAt Go.RowKit

theorem below_lit' (w : World) (cs : Array Value) (t : TypeId) : Below w.heap.size w (w.drew.alloc (.cells cs t)) := (show Below w.heap.size w w.drew from (below_drewN (Below.refl _ _) 1)).alloc (Nat.le_refl _) _
set_option maxRecDepth 100000 in
set_option maxHeartbeats 1600000 in
theorem fuses_any (X : Nat) (w : World) : Calls Try.prog 48 #[.pointer (some ⟨X, 0, none⟩)] w fun e w' => ∃ A, e = .returned (.slice (some A) 1 1) ∧ Rd w' w'.heap.size (some A) (FL X useF) ∧ Below w.heap.size w w' := by
  go_enter Try.func48, Try.ntmps48
  go_wp2
  all_goals go_ret
  all_goals exact ⟨_, rfl, rd_lit _ _ _, below_lit _ _ _⟩
set_option maxRecDepth 100000 in
set_option maxHeartbeats 1600000 in
theorem fzones_any (X : Nat) (w : World) : Calls Try.prog 47 #[.pointer (some ⟨X, 0, none⟩)] w fun e w' => ∃ A, e = .returned (.slice (some A) 2 2) ∧ Rd w' w'.heap.size (some A) (FL X zonF) ∧ Below w.heap.size w w' := by
  go_enter Try.func47, Try.ntmps47
  go_wp2
  go_region
  all_goals go_wp2
  all_goals go_ret
  all_goals exact ⟨_, rfl, rd_lit _ _ _, below_lit' _ _ _⟩
set_option maxRecDepth 100000 in
set_option maxHeartbeats 1600000 in
theorem fstations_any (X : Nat) (w : World) : Calls Try.prog 45 #[.pointer (some ⟨X, 0, none⟩)] w fun e w' => ∃ A, e = .returned (.slice (some A) 2 2) ∧ Rd w' w'.heap.size (some A) (FL X staF) ∧ Below w.heap.size w w' := by
  go_enter Try.func45, Try.ntmps45
  go_wp2
  go_region
  all_goals go_wp2
  all_goals go_ret
  all_goals exact ⟨_, rfl, rd_lit _ _ _, below_lit' _ _ _⟩
set_option maxRecDepth 100000 in
set_option maxHeartbeats 1600000 in
theorem fend_any (X : Nat) (w : World) : Calls Try.prog 46 #[.pointer (some ⟨X, 0, none⟩)] w fun e w' => ∃ A, e = .returned (.slice (some A) 3 3) ∧ Rd w' w'.heap.size (some A) (FL X endF) ∧ Below w.heap.size w w' := by
  go_enter Try.func46, Try.ntmps46
  go_wp2
  go_region
  all_goals go_wp2
  all_goals go_ret
  all_goals exact ⟨_, rfl, rd_lit _ _ _, below_lit' _ _ _⟩
set_option maxRecDepth 100000 in
set_option maxHeartbeats 1600000 in
theorem fbeginning_any (X : Nat) (w : World) : Calls Try.prog 44 #[.pointer (some ⟨X, 0, none⟩)] w fun e w' => ∃ A, e = .returned (.slice (some A) 7 7) ∧ Rd w' w'.heap.size (some A) (FL X begF) ∧ Below w.heap.size w w' := by
  go_enter Try.func44, Try.ntmps44
  go_wp2
  go_region
  all_goals go_wp2
  all_goals go_ret
  all_goals exact ⟨_, rfl, rd_lit _ _ _, below_lit' _ _ _⟩
end Go.Proofs.Ytpeccmcojocgkaa
