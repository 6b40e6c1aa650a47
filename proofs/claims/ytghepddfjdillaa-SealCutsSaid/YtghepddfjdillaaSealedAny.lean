/-
  The statements' constant check of layer 4 answers true in every world. Conditions: none.
-/
import Derived.Test.YtghepddfjdillaaSealed
namespace Go.Proofs.Ytghepddfjdillaa
set_option linter.unusedVariables false
open Go.ChangeShapes Go.WideShapes Go.ChangeAt Go.RowKit
set_option maxRecDepth 100000 in
theorem sealed_any (w : World) : Calls Try.prog 9 #[] w fun e w' => e = .returned (.bool true) ∧ Below w.heap.size w w' := by
  go_enter Try.func9, Try.ntmps9
  go_wp2_with fail
  refine (c_diff _).mono ?_
  rintro e w1 ⟨rfl, hb1⟩
  go_wp2_with fail
  refine (c_dbig _).mono ?_
  rintro e w2 ⟨g2, c2, rfl, hr2, hb2⟩
  replace hb1 := hb1.trans (hb2.mono hb1.size)
  clear hb2
  go_wp2_with fail
  refine (c_dsmall _).mono ?_
  rintro e w3 ⟨g3, c3, rfl, hr3, hb3⟩
  replace hr2 := hr2.next hb3
  replace hb1 := hb1.trans (hb3.mono hb1.size)
  clear hb3
  go_wp2_with fail
  refine (c_over _).mono ?_
  rintro e w' ⟨rfl, rfl⟩
  go_wp2_with fail
  refine (c_same12 _).mono ?_
  rintro e w4 ⟨rfl, hb4⟩
  replace hr2 := hr2.next hb4
  replace hr3 := hr3.next hb4
  replace hb1 := hb1.trans (hb4.mono hb1.size)
  clear hb4
  go_wp2_with fail
  refine (c_same13 _).mono ?_
  rintro e w5 ⟨rfl, hb5⟩
  replace hr2 := hr2.next hb5
  replace hr3 := hr3.next hb5
  replace hb1 := hb1.trans (hb5.mono hb1.size)
  clear hb5
  go_wp2_with fail
  refine (c_same1 _).mono ?_
  rintro e w6 ⟨rfl, hb6⟩
  replace hr2 := hr2.next hb6
  replace hr3 := hr3.next hb6
  replace hb1 := hb1.trans (hb6.mono hb1.size)
  clear hb6
  go_wp2_with fail
  refine (c_cut _ _ rfl).mono ?_
  rintro e w7 ⟨rfl, hb7⟩
  replace hr2 := hr2.next hb7
  replace hr3 := hr3.next hb7
  replace hb1 := hb1.trans (hb7.mono hb1.size)
  clear hb7
  go_wp2_with fail
  refine (c_refbig _ _ _ hr2).mono ?_
  rintro e w8 ⟨rfl, hb8⟩
  replace hr3 := hr3.next hb8
  replace hb1 := hb1.trans (hb8.mono hb1.size)
  clear hb8 hr2
  go_wp2_with fail
  refine (c_refsmall _ _ _ hr3).mono ?_
  rintro e w9 ⟨rfl, hb9⟩
  replace hb1 := hb1.trans (hb9.mono hb1.size)
  clear hb9 hr3
  go_wp2_with fail
  go_ret
  exact ⟨rfl, hb1⟩
end Go.Proofs.Ytghepddfjdillaa
