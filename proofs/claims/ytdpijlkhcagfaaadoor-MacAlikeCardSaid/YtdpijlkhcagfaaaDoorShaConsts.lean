/-
  Contracts for the reference's Constants and Begin of layer 2: just the table, and just the beginning. Conditions: none.
-/
import Derived.Test.YtdpijlkhcagfaaaDoorShaBlockMath
import Derived.Test.YtdpijlkhcagfaaaDoorMem
namespace Go.Proofs.YtdpijlkhcagfaaaDoor
set_option linter.unusedVariables false
open Go.ChangeShapes Go.WideShapes Go.ChangeAt Go.RowKit

def St.val (v : St) : Value := .agg #[.int .u32 v.a, .int .u32 v.b, .int .u32 v.c, .int .u32 v.d, .int .u32 v.e, .int .u32 v.f, .int .u32 v.g, .int .u32 v.h]
/-- The beginning. -/
def beginN : St := ⟨1779033703, 3144134277, 1013904242, 2773480762, 1359893119, 2600822924, 528734635, 1541459225⟩

set_option maxRecDepth 100000 in
theorem consts_any (w : World) : Calls Tryd.prog 25 #[] w fun e w' => ∃ g cap, e = .returned (.slice (some ⟨g, 0, none⟩) 64 cap) ∧ w'.ownsRow w.heap.size 22 1 (.slice (some ⟨g, 0, none⟩) 64 cap) 64 (U32 kTab) ∧ Below w.heap.size w w' := by
  go_enter Tryd.func25, Tryd.ntmps25
  go_wp2
  go_ret
  exact ⟨_, _, rfl, World.ownsRow_lit w (U32 kTab).toArray 64 (Nat.le_refl _) (by decide) rfl, (Below.refl _ _).alloc (Nat.le_refl _) _⟩

set_option maxRecDepth 100000 in
theorem begin_any (w : World) : Calls Tryd.prog 13 #[] w fun e w' => e = .returned beginN.val ∧ Below w.heap.size w w' := by
  go_enter Tryd.func13, Tryd.ntmps13
  go_wp2
  exact bodyPost_ret (v := beginN.val) (by simp [results, Tryd.results13, go_sem, St.val, beginN]) rfl ⟨rfl, (Below.refl _ _).alloc (Nat.le_refl _) _⟩
end Go.Proofs.YtdpijlkhcagfaaaDoor
