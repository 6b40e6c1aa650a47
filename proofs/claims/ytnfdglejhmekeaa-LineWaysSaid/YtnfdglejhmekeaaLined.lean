/-
  Contract for the laws' constant check of layer 7, out of the five contracts. Conditions: none.
-/
import Derived.Test.YtnfdglejhmekeaaLineC
namespace Go.Proofs.Ytnfdglejhmekeaa
set_option linter.unusedVariables false
open Go.ChangeShapes Go.WideShapes Go.ChangeAt Go.RowKit

set_option maxRecDepth 100000 in
set_option maxHeartbeats 1600000 in
theorem lined_any (C : LC) (w : World) : Calls Try.prog 12 #[] w fun e w' => e = .returned (.bool true) ∧ Below w.heap.size w w' := by
  have HBL := Lib.hid (Below.refl w.heap.size w)
  go_enter Try.func12, Try.ntmps12
  go_wp2_with fail
  refine (C.zone 20 1 0 w (by unfold In64; decide) (by kernel_rfl) (by kernel_rfl)).mono ?_
  rintro e w1 ⟨rfl, hb⟩
  replace HBL := Lib.hid (HBL.out.trans (hb.mono HBL.out.size))
  clear hb
  go_wp2_with fail
  refine (C.zone 0 6 0 w1 (by unfold In64; decide) (by kernel_rfl) (by kernel_rfl)).mono ?_
  rintro e w2 ⟨rfl, hb⟩
  replace HBL := Lib.hid (HBL.out.trans (hb.mono HBL.out.size))
  clear hb
  go_wp2_with fail
  refine (C.zone 39 5 0 w2 (by unfold In64; decide) (by kernel_rfl) (by kernel_rfl)).mono ?_
  rintro e w3 ⟨rfl, hb⟩
  replace HBL := Lib.hid (HBL.out.trans (hb.mono HBL.out.size))
  clear hb
  go_wp2_with fail
  refine (C.zone 40 0 1 w3 (by unfold In64; decide) (by kernel_rfl) (by kernel_rfl)).mono ?_
  rintro e w4 ⟨rfl, hb⟩
  replace HBL := Lib.hid (HBL.out.trans (hb.mono HBL.out.size))
  clear hb
  go_wp2_with fail
  refine (C.bet 30 10 30 true 0 w4 (by unfold In64; decide) (by unfold In64; decide) (by unfold In64; decide) (by kernel_rfl) (by kernel_rfl)).mono ?_
  rintro e w5 ⟨rfl, hb⟩
  replace HBL := Lib.hid (HBL.out.trans (hb.mono HBL.out.size))
  clear hb
  go_wp2_with fail
  refine (C.bet 10 30 31 false 0 w5 (by unfold In64; decide) (by unfold In64; decide) (by unfold In64; decide) (by kernel_rfl) (by kernel_rfl)).mono ?_
  rintro e w6 ⟨rfl, hb⟩
  replace HBL := Lib.hid (HBL.out.trans (hb.mono HBL.out.size))
  clear hb
  go_wp2_with fail
  refine (C.zones 16 25 1 2 0 w6 (by unfold In64; decide) (by unfold In64; decide) lined_z.1 lined_z.2.1 lined_z.2.2).mono ?_
  rintro e w7 ⟨rfl, hb⟩
  replace HBL := Lib.hid (HBL.out.trans (hb.mono HBL.out.size))
  clear hb
  go_wp2_with fail
  refine (C.stations 5 6 0 [0, 1, 2, 3, 4, 36, 37, 38, 39] 9 w7 (by unfold In64; decide) (by unfold In64; decide) lined_l.1 rfl lined_l.2.1).mono ?_
  rintro e w8 ⟨A16, c16, rfl, hs, hb⟩
  replace HBL := Lib.hid (HBL.out.trans (hb.mono HBL.out.size))
  have L16 := Lib.hid hs
  clear hs
  clear hb
  go_wp2_with fail
  refine (C.stations 3 2 1 [] 0 w8 (by unfold In64; decide) (by unfold In64; decide) lined_l.2.2.1 rfl lined_l.2.2.2).mono ?_
  rintro e w9 ⟨A18, c18, rfl, _, hb⟩
  replace L16 := Lib.hid (L16.out.next hb)
  replace HBL := Lib.hid (HBL.out.trans (hb.mono HBL.out.size))
  clear hb
  go_wp2_with fail
  refine (refsamen_eq [0, 1, 2, 3, 4, 36, 37, 38, 39] 9 rfl A16 (some ⟨w9.heap.size, 0, none⟩) c16 9 _ (L16.out.next (below_lit _ _ _)) (ns_lit w9 _ _ 9 rfl rfl (by omega))).mono ?_
  rintro e w10 ⟨rfl, hb⟩
  replace HBL := Lib.hid (HBL.out.trans ((below_after _ _ hb).mono HBL.out.size))
  clear hb
  go_wp2_with fail
  refine (C.is 39 true w10 (by unfold In64; decide) (by decide)).mono ?_
  rintro e w11 ⟨rfl, hb⟩
  replace HBL := Lib.hid (HBL.out.trans (hb.mono HBL.out.size))
  clear hb
  go_wp2_with fail
  refine (C.is 40 false w11 (by unfold In64; decide) (by decide)).mono ?_
  rintro e w12 ⟨rfl, hb⟩
  replace HBL := Lib.hid (HBL.out.trans (hb.mono HBL.out.size))
  clear hb
  go_wp2
  go_ret
  exact ⟨rfl, HBL.out⟩
end Go.Proofs.Ytnfdglejhmekeaa
