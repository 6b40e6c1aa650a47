/-
  Contract for the laws' constant check of layer 8, out of the contracts. Conditions: none.
-/
import Derived.Test.YtniffcjcnjhehaaFareC
namespace Go.Proofs.Ytniffcjcnjhehaa
set_option linter.unusedVariables false
open Go.ChangeShapes Go.WideShapes Go.ChangeAt Go.RowKit

set_option maxRecDepth 100000 in
set_option maxHeartbeats 1600000 in
theorem priced_any (C : FC) (w : World) : Calls Try.prog 13 #[] w fun e w' => e = .returned (.bool true) ∧ Below w.heap.size w w' := by
  have HBL := Lib.hid (Below.refl w.heap.size w)
  go_enter Try.func13, Try.ntmps13
  go_wp2_with fail
  refine (C.base 3 370 0 w (by unfold In64; decide) (by kernel_rfl) (by kernel_rfl)).mono ?_
  rintro e w1 ⟨rfl, hb⟩
  replace HBL := Lib.hid (HBL.out.trans (hb.mono HBL.out.size))
  clear hb
  go_wp2_with fail
  refine (C.cut 370 1 247 0 w1 (by unfold In64; decide) (by unfold In64; decide) (by kernel_rfl) (by kernel_rfl)).mono ?_
  rintro e w2 ⟨rfl, hb⟩
  replace HBL := Lib.hid (HBL.out.trans (hb.mono HBL.out.size))
  clear hb
  go_wp2_with fail
  refine (C.cut 150 2 100 0 w2 (by unfold In64; decide) (by unfold In64; decide) (by kernel_rfl) (by kernel_rfl)).mono ?_
  rintro e w3 ⟨rfl, hb⟩
  replace HBL := Lib.hid (HBL.out.trans (hb.mono HBL.out.size))
  clear hb
  go_wp2_with fail
  refine (C.single 20 30 1 0 555 0 w3 (by unfold In64; decide) (by unfold In64; decide) (by unfold In64; decide) (by unfold In64; decide) single_const.1 single_const.2.1).mono ?_
  rintro e w4 ⟨rfl, hb⟩
  replace HBL := Lib.hid (HBL.out.trans (hb.mono HBL.out.size))
  clear hb
  go_wp2_with fail
  refine (C.single 20 40 1 0 0 1 w4 (by unfold In64; decide) (by unfold In64; decide) (by unfold In64; decide) (by unfold In64; decide) single_const.2.2.1 single_const.2.2.2).mono ?_
  rintro e w5 ⟨rfl, hb⟩
  replace HBL := Lib.hid (HBL.out.trans (hb.mono HBL.out.size))
  clear hb
  go_wp2_with fail
  refine (C.back 1000 3 7 278 0 w5 (by unfold In64; decide) (by unfold In64; decide) (by unfold In64; decide) (by kernel_rfl) (by kernel_rfl)).mono ?_
  rintro e w6 ⟨rfl, hb⟩
  replace HBL := Lib.hid (HBL.out.trans (hb.mono HBL.out.size))
  clear hb
  go_wp2_with fail
  refine (C.back 300 1 2 0 0 w6 (by unfold In64; decide) (by unfold In64; decide) (by unfold In64; decide) (by kernel_rfl) (by kernel_rfl)).mono ?_
  rintro e w7 ⟨rfl, hb⟩
  replace HBL := Lib.hid (HBL.out.trans (hb.mono HBL.out.size))
  clear hb
  go_wp2_with fail
  refine (C.back 300 3 2 0 1 w7 (by unfold In64; decide) (by unfold In64; decide) (by unfold In64; decide) (by kernel_rfl) (by kernel_rfl)).mono ?_
  rintro e w8 ⟨rfl, hb⟩
  replace HBL := Lib.hid (HBL.out.trans (hb.mono HBL.out.size))
  clear hb
  go_wp2
  go_ret
  exact ⟨rfl, HBL.out⟩
end Go.Proofs.Ytniffcjcnjhehaa
