/-
  The statements' constant check answers true in every world. Conditions: none.
-/
import Derived.Test.YtokhoajpkbpcdaaConst
namespace Go.Proofs.Ytokhoajpkbpcdaa
set_option linter.unusedVariables false
open Go.ChangeShapes Go.WideShapes Go.ChangeAt Go.RowKit
set_option maxRecDepth 100000 in
theorem turned_any (w : World) : Calls Try.prog 8 #[] w fun e w' => e = .returned (.bool true) ∧ Below w.heap.size w w' := by
  go_enter Try.func8, Try.ntmps8
  go_wp2_with fail
  refine (t_words _).mono ?_
  rintro e w1 ⟨g1, c1, rfl, hr1, hb1⟩
  go_wp2_with fail
  refine (t_words_bad _).mono ?_
  rintro e w2 ⟨rfl, hb2⟩
  replace hr1 := hr1.next hb2
  replace hb1 := hb1.trans (hb2.mono hb1.size)
  clear hb2
  go_wp2_with fail
  refine (t_put _).mono ?_
  rintro e w3 ⟨g3, c3, rfl, hr3, hb3⟩
  replace hr1 := hr1.next hb3
  replace hb1 := hb1.trans (hb3.mono hb1.size)
  clear hb3
  go_wp2_with fail
  refine (t_put_over _).mono ?_
  rintro e w' ⟨rfl, rfl⟩
  go_wp2_with fail
  refine (t_get _).mono ?_
  rintro e w4 ⟨rfl, hb4⟩
  replace hr1 := hr1.next hb4
  replace hr3 := hr3.next hb4
  replace hb1 := hb1.trans (hb4.mono hb1.size)
  clear hb4
  go_wp2_with fail
  refine (t_get_over _).mono ?_
  rintro e w5 ⟨rfl, hb5⟩
  replace hr1 := hr1.next hb5
  replace hr3 := hr3.next hb5
  replace hb1 := hb1.trans (hb5.mono hb1.size)
  clear hb5
  go_wp2_with fail
  refine (t_put_arg _).mono ?_
  rintro e w' ⟨rfl, rfl⟩
  go_wp2_with fail
  refine (t_samew _ _ _ hr1).mono ?_
  rintro e w6 ⟨rfl, hb6⟩
  replace hr3 := hr3.next hb6
  replace hb1 := hb1.trans (hb6.mono hb1.size)
  clear hb6 hr1
  go_wp2_with fail
  refine (t_same _ _ _ hr3).mono ?_
  rintro e w7 ⟨rfl, hb7⟩
  replace hb1 := hb1.trans (hb7.mono hb1.size)
  clear hb7 hr3
  go_wp2_with fail
  refine (t_rot1 _).mono ?_
  rintro e w' ⟨rfl, rfl⟩
  go_wp2_with fail
  refine (t_rot6 _).mono ?_
  rintro e w' ⟨rfl, rfl⟩
  go_wp2_with fail
  refine (t_rot3 _).mono ?_
  rintro e w' ⟨rfl, rfl⟩
  go_wp2_with fail
  refine (t_bytes _).mono ?_
  rintro e w8 ⟨g8, c8, rfl, hr8, hb8⟩
  replace hb1 := hb1.trans (hb8.mono hb1.size)
  clear hb8
  go_wp2_with fail
  refine (t_same4 _ _ _ hr8).mono ?_
  rintro e w9 ⟨rfl, hb9⟩
  replace hb1 := hb1.trans (hb9.mono hb1.size)
  clear hb9 hr8
  go_wp2_with fail
  go_ret
  exact ⟨rfl, hb1⟩
end Go.Proofs.Ytokhoajpkbpcdaa
