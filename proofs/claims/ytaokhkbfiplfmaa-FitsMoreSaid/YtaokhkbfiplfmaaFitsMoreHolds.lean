/-
  Proved: whatever comes in, the law FitsMore answers true, and leaves what came in as it was. Conditions: none beyond the statement's own.
-/
import Derived.Test.YtaokhkbfiplfmaaFitsMoreLaw
import Derived.Test.YtaokhkbfiplfmaaTicketOpen
namespace Go.Proofs.Ytaokhkbfiplfmaa
set_option linter.unusedVariables false
open Go.ChangeShapes Go.WideShapes Go.ChangeAt Go.RowKit

set_option maxRecDepth 100000 in
theorem more20_lifted (os : Os) (started : os.Started) (H : Type) (enc : TypeId × Value → H) :
    ReturnsInHanded {} Try.checked os 4 .any (Rows.fitsMoreSpec.pre6 enc Try.prog Try.f4 Rows.fitsMoreRow.domain false) (Rows.fitsMoreSpec.post enc Try.prog Try.f4 false true false false) := by
  refine returnsInHanded_of_change (C := Try.checked) Try.own started (by kernel_rfl) Try.func4
    (ChangeSpec.witness6 (enc := enc) (C := Try.checked) false ⟨#[], #[.agg #[.int .i64 0, .int .i64 0, .int .i64 0, .int .i64 0, .int .i64 0, .int .i64 0, .int .i64 0, .int .i64 0, .int .i64 0, .int .i64 0, .int .i64 0], .int .i64 0], []⟩ 8 (by kernel_rfl) (by kernel_rfl) (by kernel_rfl) (by kernel_rfl)) ?_
  intro W base args ds gs before hval0 hW _ _
  have hval : ∀ (j : Nat) t v, Try.f4.params[j]? = some t → args[j]? = some v → Value.okWide Try.prog W .any base t v := hval0
  have hW' := hW
  obtain ⟨p, q, hA0, hV, rfl, _, _⟩ := hW'
  have hA : DataW.TrodAll enc Try.prog W 0 (fun _ => true) true Try.f4.params.toList args.toList ds p := hA0
  rw [Try.params4] at hA hval
  obtain ⟨v0, vs0, d0, ds0, p0, pq0, hargs0, rfl, rfl, h0, r0⟩ := trodAll_cons hA
  obtain ⟨v1, vs1, d1, ds1, p1, pq1, hargs1, rfl, rfl, h1, r1⟩ := trodAll_cons r0
  obtain ⟨rfl, rfl, rfl⟩ := trodAll_nil r1
  obtain rfl : args = #[v0, v1] := by cases args; simp_all
  obtain ⟨q0, rfl, y0⟩ := open_ticket (hval 0 23 v0 rfl rfl) h0
  obtain ⟨x1, rfl, _, _, wx1⟩ := open_int Try.underlying3 (hval 1 3 v1 rfl rfl) h1
  have hlaw : Calls Try.prog 4 #[.agg #[.int .i64 q0.ser, .int .i64 q0.kind, .int .i64 q0.frm, .int .i64 q0.till, .int .i64 q0.cls, .int .i64 q0.card, .int .i64 q0.seat, .int .i64 q0.day, .int .i64 q0.days, .int .i64 q0.uses, .int .i64 q0.epoch], .int .i64 x1] W fun e w' => e = .returned (.bool true) ∧ Below W.heap.size W w' := more20_any q0 x1 (wf_i64 x1 wx1) W
  refine hlaw.mono fun e W' ⟨he, hb⟩ => ?_
  subst he
  exact ⟨_, rfl, law_post Try.laidOut Try.underlying4 hW rfl (by kernel_rfl) (by kernel_rfl) rfl hb⟩

theorem fitsMore_holds : Rows.FitsMoreSaid :=
  OpenClaim.holds_of_wide 4 Try.f4 rfl rfl rfl rfl rfl rfl rfl ⟨rfl, rfl, rfl, rfl, rfl⟩ rfl rfl rfl rfl rfl (by kernel_rfl) Try.func4 (by kernel_rfl)
    (of_decide_eq_true (by kernel_rfl)) (by unfold Func.isWrapper; first | (rw [if_pos (by decide +kernel)]; kernel_rfl) | (rw [if_neg (by decide +kernel)]; exact ⟨rfl, rfl⟩))
    (fun os started H enc _ => more20_lifted os started H enc)
end Go.Proofs.Ytaokhkbfiplfmaa
