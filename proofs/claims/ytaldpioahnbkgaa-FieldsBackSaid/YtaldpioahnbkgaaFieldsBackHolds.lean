/-
  Proved: whatever comes in, the law FieldsBack answers true, and leaves what came in as it was. Conditions: none beyond the statement's own.
-/
import Derived.Test.YtaldpioahnbkgaaFieldsBackLaw
import Derived.Test.YtaldpioahnbkgaaFieldsTold
import Derived.Test.YtaldpioahnbkgaaLayOpen
import Derived.Test.YtaldpioahnbkgaaTlvOpen
namespace Go.Proofs.Ytaldpioahnbkgaa
set_option linter.unusedVariables false
open Go.ChangeShapes Go.WideShapes Go.ChangeAt Go.RowKit

set_option maxRecDepth 100000 in
theorem back18_lifted (os : Os) (started : os.Started) (H : Type) (enc : TypeId × Value → H) :
    ReturnsInHanded {} Try.checked os 5 .any (Rows.fieldsBackSpec.pre6 enc Try.prog Try.f5 Rows.fieldsBackRow.domain false) (Rows.fieldsBackSpec.post enc Try.prog Try.f5 false true false false) := by
  refine returnsInHanded_of_change (C := Try.checked) Try.own started (by kernel_rfl) Try.func5
    (ChangeSpec.witness6 (enc := enc) (C := Try.checked) false ⟨#[], #[.agg #[.int .i64 0, .int .i64 0, .int .i64 0, .int .i64 0, .int .i64 0, .int .i64 0, .int .i64 0, .int .i64 0, .int .i64 0, .int .i64 0, .int .i64 0, .int .i64 0, .int .i64 0, .int .i64 0, .int .i64 0], .slice none 0 0], []⟩ 8 (by kernel_rfl) (by kernel_rfl) (by kernel_rfl) (by kernel_rfl)) ?_
  intro W base args ds gs before hval0 hW _ _
  have hval : ∀ (j : Nat) t v, Try.f5.params[j]? = some t → args[j]? = some v → Value.okWide Try.prog W .any base t v := hval0
  have hW' := hW
  obtain ⟨p, q, hA0, hV, rfl, _, _⟩ := hW'
  have hA : DataW.TrodAll enc Try.prog W 0 (fun _ => true) true Try.f5.params.toList args.toList ds p := hA0
  rw [Try.params5] at hA hval
  obtain ⟨v0, vs0, d0, ds0, p0, pq0, hargs0, rfl, rfl, h0, r0⟩ := trodAll_cons hA
  obtain ⟨v1, vs1, d1, ds1, p1, pq1, hargs1, rfl, rfl, h1, r1⟩ := trodAll_cons r0
  obtain ⟨rfl, rfl, rfl⟩ := trodAll_nil r1
  obtain rfl : args = #[v0, v1] := by cases args; simp_all
  obtain ⟨q0, rfl, n0⟩ := open_read (hval 0 27 v0 rfl rfl) h0
  obtain ⟨A1, l1, k1, rfl, s1⟩ := open_fields (hval 1 28 v1 rfl rfl) h1
  have hlaw : Calls Try.prog 5 #[.agg #[.int .i64 q0.t.ser, .int .i64 q0.t.kind, .int .i64 q0.t.frm, .int .i64 q0.t.till, .int .i64 q0.t.cls, .int .i64 q0.t.card, .int .i64 q0.t.seat, .int .i64 q0.t.day, .int .i64 q0.t.days, .int .i64 q0.t.uses, .int .i64 q0.t.epoch, .int .i64 q0.key, .int .i64 q0.left, .int .i64 q0.inn, .int .i64 q0.ver], .slice A1 l1.length k1] W fun e w' => e = .returned (.bool true) ∧ Below W.heap.size W w' := fieldsBack_any told_ok q0 l1 _ rfl A1 k1 W s1
  refine hlaw.mono fun e W' ⟨he, hb⟩ => ?_
  subst he
  exact ⟨_, rfl, law_post Try.laidOut Try.underlying4 hW rfl (by kernel_rfl) (by kernel_rfl) rfl hb⟩

theorem fieldsBack_holds : Rows.FieldsBackSaid :=
  OpenClaim.holds_of_wide 5 Try.f5 rfl rfl rfl rfl rfl rfl rfl ⟨rfl, rfl, rfl, rfl, rfl⟩ rfl rfl rfl rfl rfl (by kernel_rfl) Try.func5 (by kernel_rfl)
    (of_decide_eq_true (by kernel_rfl)) (by unfold Func.isWrapper; first | (rw [if_pos (by decide +kernel)]; kernel_rfl) | (rw [if_neg (by decide +kernel)]; exact ⟨rfl, rfl⟩))
    (fun os started H enc _ => back18_lifted os started H enc)
end Go.Proofs.Ytaldpioahnbkgaa
