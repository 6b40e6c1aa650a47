/-
  Contracts for the reference's place, uses, Is, Last and Covers. Conditions: none.
-/
import Derived.Test.YtaokhkbfiplfmaaTicketBox
import Derived.Test.YtaokhkbfiplfmaaLineRefIs
namespace Go.Proofs.Ytaokhkbfiplfmaa
set_option linter.unusedVariables false
open Go.ChangeShapes Go.WideShapes Go.ChangeAt Go.RowKit

set_option maxRecDepth 100000 in
set_option maxHeartbeats 3200000 in
theorem refplace_any (t : Tk) (b : Bool) (hb : placeB t = b) (w : World) : Calls Try.prog 17 #[.agg #[.int .i64 t.ser, .int .i64 t.kind, .int .i64 t.frm, .int .i64 t.till, .int .i64 t.cls, .int .i64 t.card, .int .i64 t.seat, .int .i64 t.day, .int .i64 t.days, .int .i64 t.uses, .int .i64 t.epoch]] w fun e w' => e = .returned (.bool b) ∧ Below w.heap.size w w' := by
  have HV := Lib.hid hb
  clear hb
  obtain ⟨w0, hw0⟩ : ∃ w0, w0 = w.alloc (.cells #[.int .i64 t.ser, .int .i64 t.kind, .int .i64 t.frm, .int .i64 t.till, .int .i64 t.cls, .int .i64 t.card, .int .i64 t.seat, .int .i64 t.day, .int .i64 t.days, .int .i64 t.uses, .int .i64 t.epoch] 23) := ⟨_, rfl⟩
  have HX : Hid (TBox w0 w.heap.size t) := Lib.hid (by rw [hw0]; exact TBox.new w t)
  have HB : Hid (Below w.heap.size w w0) := Lib.hid (by rw [hw0]; exact below_lit w _ _)
  have HW := Lib.hid hw0
  clear hw0
  obtain ⟨c0, c1, c2, c3, c4, c5, c6, c7, c8, c9, c10⟩ := HX.out.cells
  by_cases hk : t.kind = 3
  · have qk : (t.kind == 3) = true := by rw [beq_iff_eq]; exact hk
    have hb : (decide (1 ≤ t.frm) && (decide (t.frm ≤ t.till) && decide (t.till ≤ 6))) = b := by rw [← HV.out, placeB, if_pos hk]
    have HV2 := Lib.hid hb
    clear hb hk
    cases q1 : decide (1 ≤ t.frm) <;> cases q2 : decide (t.frm ≤ t.till) <;> cases q3 : decide (t.till ≤ 6)
    all_goals
      have hb := HV2.out
      rw [q1, q2, q3] at hb
      subst hb
      go_enter Try.func17, Try.ntmps17
      go_wp2
      rw [← HW.out]
      go_wp2
      go_ret
      exact ⟨rfl, HB.out⟩
  · have qk : (t.kind == 3) = false := by rw [beq_eq_false_iff_ne]; exact hk
    have hb : (isN t.frm && (isN t.till && (t.frm != t.till))) = b := by rw [← HV.out, placeB, if_neg hk]
    have HV2 := Lib.hid hb
    clear hb hk
    cases q1 : isN t.frm <;> cases q2 : isN t.till <;> cases q3 : (t.frm != t.till)
    all_goals
      have hb := HV2.out
      rw [q1, q2, q3] at hb
      subst hb
      have HI := Lib.hid q1
      have HJ := Lib.hid q2
      clear q1 q2
      go_enter Try.func17, Try.ntmps17
      go_wp2_with (go_at_call 22; refine (refisn_any _ _ (by first | exact HI.out | exact HJ.out) _).mono ?_; rintro e w1 ⟨rfl, rfl⟩)
      go_ret
      refine ⟨rfl, ?_⟩
      rw [← HW.out]
      exact HB.out
end Go.Proofs.Ytaokhkbfiplfmaa
