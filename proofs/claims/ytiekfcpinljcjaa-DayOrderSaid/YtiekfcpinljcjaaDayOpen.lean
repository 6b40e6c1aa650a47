/-
  How a date that came in by value is opened. Conditions: none.
-/
import Derived.Test.YtiekfcpinljcjaaDayC
import Derived.Test.YtiekfcpinljcjaaLaw
import Derived.Deep.Slices
import Derived.Deep.Fields
import Derived.Lib.SmallJoins
namespace Go.Proofs.Ytiekfcpinljcjaa
set_option linter.unusedVariables false
open Go.ChangeShapes Go.WideShapes Go.ChangeAt Go.RowKit Go.Deep

section
variable {H : Type} {enc : TypeId × Value → H}
theorem int_of_cells {W : World} {fuel : Nat} {v : Value} {y : DataW H × List MemPlace} (h : DataW.trod enc Try.prog W 0 (fun _ => true) true fuel 3 [v] = some y) : ∃ z : Int, v = .int .i64 z ∧ -9223372036854775808 ≤ z ∧ z ≤ 9223372036854775807 := by
  obtain ⟨z, e1, _, wz⟩ := DataW.trod_int Try.underlying3 h
  simp at e1
  exact ⟨z, e1, wf_i64 z wz⟩
theorem cellsDate : Try.prog.cellsOf 23 = 3 := by kernel_rfl
theorem open_date {W : World} {r : Reach} {b0 : Nat} {v : Value} {d : DataW H} {ps : List MemPlace} (hval : Value.okWide Try.prog W r b0 23 v) (hd : DataW.Trod enc Try.prog W 0 (fun _ => true) true 23 v d ps) :
    ∃ q : D, v = .agg #[.int .i64 q.y, .int .i64 q.m, .int .i64 q.d] ∧ In64 q.y ∧ In64 q.m ∧ In64 q.d := by
  obtain ⟨v0, v1, v2, y0, y1, y2, n, rfl, _, _, h0, h1, h2⟩ := Go.Joins.open_agg3 Try.underlying23 (by kernel_rfl) cellsDate hval hd
  obtain ⟨z0, rfl, a0, b0⟩ := int_of_cells h0
  obtain ⟨z1, rfl, a1, b1⟩ := int_of_cells h1
  obtain ⟨z2, rfl, a2, b2⟩ := int_of_cells h2
  exact ⟨⟨z0, z1, z2⟩, rfl, ⟨a0, b0⟩, ⟨a1, b1⟩, ⟨a2, b2⟩⟩
end
end Go.Proofs.Ytiekfcpinljcjaa
