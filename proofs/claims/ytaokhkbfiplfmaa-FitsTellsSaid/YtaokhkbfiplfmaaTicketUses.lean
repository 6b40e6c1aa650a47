/-
  Contracts for the reference's uses and Is. Conditions: none.
-/
import Derived.Test.YtaokhkbfiplfmaaTicketRef
namespace Go.Proofs.Ytaokhkbfiplfmaa
set_option linter.unusedVariables false
open Go.ChangeShapes Go.WideShapes Go.ChangeAt Go.RowKit

set_option maxRecDepth 100000 in
set_option maxHeartbeats 3200000 in
theorem refuses_any (t : Tk) (b : Bool) (hb : usesB t = b) (w : World) : Calls Try.prog 18 #[.agg #[.int .i64 t.ser, .int .i64 t.kind, .int .i64 t.frm, .int .i64 t.till, .int .i64 t.cls, .int .i64 t.card, .int .i64 t.seat, .int .i64 t.day, .int .i64 t.days, .int .i64 t.uses, .int .i64 t.epoch]] w fun e w' => e = .returned (.bool b) ∧ Below w.heap.size w w' := by
  have HV := Lib.hid hb
  clear hb
  obtain ⟨w0, hw0⟩ : ∃ w0, w0 = w.alloc (.cells #[.int .i64 t.ser, .int .i64 t.kind, .int .i64 t.frm, .int .i64 t.till, .int .i64 t.cls, .int .i64 t.card, .int .i64 t.seat, .int .i64 t.day, .int .i64 t.days, .int .i64 t.uses, .int .i64 t.epoch] 23) := ⟨_, rfl⟩
  have HX : Hid (TBox w0 w.heap.size t) := Lib.hid (by rw [hw0]; exact TBox.new w t)
  have HB : Hid (Below w.heap.size w w0) := Lib.hid (by rw [hw0]; exact below_lit w _ _)
  have HW := Lib.hid hw0
  clear hw0
  obtain ⟨c0, c1, c2, c3, c4, c5, c6, c7, c8, c9, c10⟩ := HX.out.cells
  by_cases hk : t.kind = 4
  · have qk : (t.kind == 4) = true := by rw [beq_iff_eq]; exact hk
    have hb : (decide (2 ≤ t.uses) && decide (t.uses ≤ 20)) = b := by rw [← HV.out, usesB, if_pos hk]
    have HV2 := Lib.hid hb
    clear hb hk
    cases q1 : decide (2 ≤ t.uses) <;> cases q2 : decide (t.uses ≤ 20)
    all_goals
      have hb := HV2.out
      rw [q1, q2] at hb
      subst hb
      go_enter Try.func18, Try.ntmps18
      go_wp2
      rw [← HW.out]
      go_wp2
      go_ret
      exact ⟨rfl, HB.out⟩
  · have qk : (t.kind == 4) = false := by rw [beq_eq_false_iff_ne]; exact hk
    have hb : (t.uses == t.kind.tmod 3) = b := by rw [← HV.out, usesB, if_neg hk]
    have HV2 := Lib.hid hb
    clear hb hk
    go_enter Try.func18, Try.ntmps18
    go_wp2
    rw [← HW.out]
    go_wp2
    go_ret
    exact ⟨by rw [HV2.out]; rfl, HB.out⟩
end Go.Proofs.Ytaokhkbfiplfmaa
