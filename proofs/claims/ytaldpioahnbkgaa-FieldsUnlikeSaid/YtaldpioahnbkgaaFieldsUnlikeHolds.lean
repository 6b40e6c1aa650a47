/-
  Proved: whatever comes in, the law FieldsUnlike answers true, and leaves what came in as it was. Conditions: none beyond the statement's own.
-/
import Derived.Test.YtaldpioahnbkgaaFieldsUnlikeLaw
import Derived.Test.YtaldpioahnbkgaaFieldsTold
import Derived.Test.YtaldpioahnbkgaaLayOpen
namespace Go.Proofs.Ytaldpioahnbkgaa
set_option linter.unusedVariables false
open Go.ChangeShapes Go.WideShapes Go.ChangeAt Go.RowKit

set_option maxRecDepth 100000 in
theorem unlike18_lifted (os : Os) (started : os.Started) (H : Type) (enc : TypeId × Value → H) :
    ReturnsInHanded {} Try.checked os 7 .any (Rows.fieldsUnlikeSpec.pre6 enc Try.prog Try.f7 Rows.fieldsUnlikeRow.domain false) (Rows.fieldsUnlikeSpec.post enc Try.prog Try.f7 false true false false) := by
  refine returnsInHanded_of_change (C := Try.checked) Try.own started (by kernel_rfl) Try.func7
    (ChangeSpec.witness6 (enc := enc) (C := Try.checked) false ⟨#[], #[.agg #[.int .i64 0, .int .i64 0, .int .i64 0, .int .i64 0, .int .i64 0, .int .i64 0, .int .i64 0, .int .i64 0, .int .i64 0, .int .i64 0, .int .i64 0, .int .i64 0, .int .i64 0, .int .i64 0, .int .i64 0], .agg #[.int .i64 0, .int .i64 0, .int .i64 0, .int .i64 0, .int .i64 0, .int .i64 0, .int .i64 0, .int .i64 0, .int .i64 0, .int .i64 0, .int .i64 0, .int .i64 0, .int .i64 0, .int .i64 0, .int .i64 0]], []⟩ 8 (by kernel_rfl) (by kernel_rfl) (by kernel_rfl) (by kernel_rfl)) ?_
  intro W base args ds gs before hval0 hW _ _
  have hval : ∀ (j : Nat) t v, Try.f7.params[j]? = some t → args[j]? = some v → Value.okWide Try.prog W .any base t v := hval0
  have hW' := hW
  obtain ⟨p, q, hA0, hV, rfl, _, _⟩ := hW'
  have hA : DataW.TrodAll enc Try.prog W 0 (fun _ => true) true Try.f7.params.toList args.toList ds p := hA0
  rw [Try.params7] at hA hval
  obtain ⟨v0, vs0, d0, ds0, p0, pq0, hargs0, rfl, rfl, h0, r0⟩ := trodAll_cons hA
  obtain ⟨v1, vs1, d1, ds1, p1, pq1, hargs1, rfl, rfl, h1, r1⟩ := trodAll_cons r0
  obtain ⟨rfl, rfl, rfl⟩ := trodAll_nil r1
  obtain rfl : args = #[v0, v1] := by cases args; simp_all
  obtain ⟨q0, rfl, n0⟩ := open_read (hval 0 27 v0 rfl rfl) h0
  obtain ⟨q1, rfl, n1⟩ := open_read (hval 1 27 v1 rfl rfl) h1
  have hlaw : Calls Try.prog 7 #[.agg #[.int .i64 q0.t.ser, .int .i64 q0.t.kind, .int .i64 q0.t.frm, .int .i64 q0.t.till, .int .i64 q0.t.cls, .int .i64 q0.t.card, .int .i64 q0.t.seat, .int .i64 q0.t.day, .int .i64 q0.t.days, .int .i64 q0.t.uses, .int .i64 q0.t.epoch, .int .i64 q0.key, .int .i64 q0.left, .int .i64 q0.inn, .int .i64 q0.ver], .agg #[.int .i64 q1.t.ser, .int .i64 q1.t.kind, .int .i64 q1.t.frm, .int .i64 q1.t.till, .int .i64 q1.t.cls, .int .i64 q1.t.card, .int .i64 q1.t.seat, .int .i64 q1.t.day, .int .i64 q1.t.days, .int .i64 q1.t.uses, .int .i64 q1.t.epoch, .int .i64 q1.key, .int .i64 q1.left, .int .i64 q1.inn, .int .i64 q1.ver]] W fun e w' => e = .returned (.bool true) ∧ Below W.heap.size W w' := fieldsUnlike_any told_ok q0 q1 W
  refine hlaw.mono fun e W' ⟨he, hb⟩ => ?_
  subst he
  exact ⟨_, rfl, law_post Try.laidOut Try.underlying4 hW rfl (by kernel_rfl) (by kernel_rfl) rfl hb⟩

theorem fieldsUnlike_holds : Rows.FieldsUnlikeSaid :=
  OpenClaim.holds_of_wide 7 Try.f7 rfl rfl rfl rfl rfl rfl rfl ⟨rfl, rfl, rfl, rfl, rfl⟩ rfl rfl rfl rfl rfl (by kernel_rfl) Try.func7 (by kernel_rfl)
    (of_decide_eq_true (by kernel_rfl)) (by unfold Func.isWrapper; first | (rw [if_pos (by decide +kernel)]; kernel_rfl) | (rw [if_neg (by decide +kernel)]; exact ⟨rfl, rfl⟩))
    (fun os started H enc _ => unlike18_lifted os started H enc)
end Go.Proofs.Ytaldpioahnbkgaa
