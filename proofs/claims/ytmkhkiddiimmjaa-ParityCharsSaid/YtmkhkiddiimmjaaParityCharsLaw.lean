/-
  Law ParityChars walked, out of the contracts: it answers true. Conditions: the numbers fit an int.
-/
import Derived.Test.YtmkhkiddiimmjaaParityOdd
namespace Go.Proofs.Ytmkhkiddiimmjaa
set_option linter.unusedVariables false
open Go.ChangeShapes Go.WideShapes Go.ChangeAt Go.RowKit

set_option maxRecDepth 100000 in
set_option maxHeartbeats 1600000 in
theorem chars_any (C : PC) (v c : Int) (jv : In64 v) (jc : In64 c) (w : World) : Calls Try.prog 3 #[.int .i64 v, .int .i64 c] w fun e w' => e = .returned (.bool true) ∧ Below w.heap.size w w' := by
  have RV := Lib.hid jv
  have RC := Lib.hid jc
  clear jv jc
  obtain ⟨x, hx⟩ : ∃ x, charV v = x := ⟨_, rfl⟩
  have HX := Lib.hid hx
  clear hx
  obtain ⟨E, hE⟩ : ∃ E, charE v = E := ⟨_, rfl⟩
  have HE := Lib.hid hE
  clear hE
  obtain ⟨y, hy⟩ : ∃ y, valV c = y := ⟨_, rfl⟩
  have HY := Lib.hid hy
  clear hy
  obtain ⟨F, hF⟩ : ∃ F, valE c = F := ⟨_, rfl⟩
  have HF := Lib.hid hF
  clear hF
  have HBL := Lib.hid (Below.refl w.heap.size w)
  go_enter Try.func3, Try.ntmps3
  go_wp2_with fail
  refine (C.char v x E w RV.out HX.out HE.out).mono ?_
  rintro e w1 ⟨rfl, hb⟩
  replace HBL := Lib.hid (HBL.out.trans (hb.mono HBL.out.size))
  clear hb
  go_wp2_with fail
  refine (refchar_any v x E HX.out HE.out w1).mono ?_
  rintro e w9 ⟨rfl, e1⟩
  rw [e1]
  clear e1 w9
  go_wp2_with fail
  refine (C.value c y F w1 RC.out HY.out HF.out).mono ?_
  rintro e w2 ⟨rfl, hb⟩
  replace HBL := Lib.hid (HBL.out.trans (hb.mono HBL.out.size))
  clear hb
  go_wp2_with fail
  refine (refvalue_any c y F HY.out HF.out w2).mono ?_
  rintro e w9 ⟨rfl, e1⟩
  rw [e1]
  clear e1 w9
  go_wp2_with fail
  refine (odd_any C w2).mono ?_
  rintro e w3 ⟨rfl, hb⟩
  replace HBL := Lib.hid (HBL.out.trans (hb.mono HBL.out.size))
  clear hb
  go_wp2
  go_ret
  exact ⟨rfl, HBL.out⟩
end Go.Proofs.Ytmkhkiddiimmjaa
