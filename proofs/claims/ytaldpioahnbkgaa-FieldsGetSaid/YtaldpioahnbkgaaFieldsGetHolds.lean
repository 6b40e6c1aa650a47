/-
  Proved: whatever comes in, the law FieldsGet answers true, and leaves what came in as it was. Conditions: none beyond the statement's own.
-/
import Derived.Test.YtaldpioahnbkgaaFieldsGetLaw
import Derived.Test.YtaldpioahnbkgaaFieldsTold
import Derived.Test.YtaldpioahnbkgaaTlvOpen
namespace Go.Proofs.Ytaldpioahnbkgaa
set_option linter.unusedVariables false
open Go.ChangeShapes Go.WideShapes Go.ChangeAt Go.RowKit

set_option maxRecDepth 100000 in
theorem get18_lifted (os : Os) (started : os.Started) (H : Type) (enc : TypeId × Value → H) :
    ReturnsInHanded {} Try.checked os 4 .any (Rows.fieldsGetSpec.pre6 enc Try.prog Try.f4 Rows.fieldsGetRow.domain false) (Rows.fieldsGetSpec.post enc Try.prog Try.f4 false true false false) := by
  refine returnsInHanded_of_change (C := Try.checked) Try.own started (by kernel_rfl) Try.func4
    (ChangeSpec.witness6 (enc := enc) (C := Try.checked) false ⟨#[], #[.slice none 0 0], []⟩ 8 (by kernel_rfl) (by kernel_rfl) (by kernel_rfl) (by kernel_rfl)) ?_
  intro W base args ds gs before hval0 hW _ _
  have hval : ∀ (j : Nat) t v, Try.f4.params[j]? = some t → args[j]? = some v → Value.okWide Try.prog W .any base t v := hval0
  have hW' := hW
  obtain ⟨p, q, hA0, hV, rfl, _, _⟩ := hW'
  have hA : DataW.TrodAll enc Try.prog W 0 (fun _ => true) true Try.f4.params.toList args.toList ds p := hA0
  rw [Try.params4] at hA hval
  obtain ⟨v0, vs0, d0, ds0, p0, pq0, hargs0, rfl, rfl, h0, r0⟩ := trodAll_cons hA
  obtain ⟨rfl, rfl, rfl⟩ := trodAll_nil r0
  obtain rfl : args = #[v0] := by cases args; simp_all
  obtain ⟨A0, l0, k0, rfl, s0⟩ := open_fields (hval 0 28 v0 rfl rfl) h0
  have hlaw : Calls Try.prog 4 #[.slice A0 l0.length k0] W fun e w' => e = .returned (.bool true) ∧ Below W.heap.size W w' := fieldsGet_any told_ok l0 _ rfl A0 k0 W s0
  refine hlaw.mono fun e W' ⟨he, hb⟩ => ?_
  subst he
  exact ⟨_, rfl, law_post Try.laidOut Try.underlying4 hW rfl (by kernel_rfl) (by kernel_rfl) rfl hb⟩

theorem fieldsGet_holds : Rows.FieldsGetSaid :=
  OpenClaim.holds_of_wide 4 Try.f4 rfl rfl rfl rfl rfl rfl rfl ⟨rfl, rfl, rfl, rfl, rfl⟩ rfl rfl rfl rfl rfl (by kernel_rfl) Try.func4 (by kernel_rfl)
    (of_decide_eq_true (by kernel_rfl)) (by unfold Func.isWrapper; first | (rw [if_pos (by decide +kernel)]; kernel_rfl) | (rw [if_neg (by decide +kernel)]; exact ⟨rfl, rfl⟩))
    (fun os started H enc _ => get18_lifted os started H enc)
end Go.Proofs.Ytaldpioahnbkgaa
