/-
  Contracts for the landed within, hasWay, hasZones, onWay and inZones. Conditions: none.
-/
import Derived.Test.YtaokhkbfiplfmaaTicketPBox
import Derived.Test.YtaokhkbfiplfmaaLinePBet
import Derived.Test.YtaokhkbfiplfmaaLinePZone
namespace Go.Proofs.Ytaokhkbfiplfmaa
set_option linter.unusedVariables false
open Go.ChangeShapes Go.WideShapes Go.ChangeAt Go.RowKit


theorem pwithin_any (n a b : Int) (v : Bool) (hv : (decide (a ≤ n) && decide (n ≤ b)) = v) (w : World) : Calls Try.prog 21 #[.int .i64 n, .int .i64 a, .int .i64 b] w fun e w' => e = .returned (.bool v) ∧ w' = w := by
  have HB := Lib.hid hv
  clear hv
  cases h0 : decide (a ≤ n) <;> cases h1 : decide (n ≤ b)
  all_goals
    have H0 := Lib.hid h0
    have H1 := Lib.hid h1
    go_enter Try.func21, Try.ntmps21
    go_wp2
    go_ret
    refine ⟨congrArg Ending.returned (congrArg Value.bool ?_), rfl⟩
    rw [← HB.out, H0.out, H1.out]
    rfl
def wayB (t : Tk) : Bool := isN t.frm && (isN t.till && (t.frm != t.till))
def zonesB (t : Tk) : Bool := decide (1 ≤ t.frm) && (decide (t.frm ≤ t.till) && decide (t.till ≤ 6))
set_option maxHeartbeats 1600000 in
theorem phasway_any (t : Tk) (b : Bool) (hb : wayB t = b) (w : World) : Calls Try.prog 23 #[.agg #[.int .i64 t.ser, .int .i64 t.kind, .int .i64 t.frm, .int .i64 t.till, .int .i64 t.cls, .int .i64 t.card, .int .i64 t.seat, .int .i64 t.day, .int .i64 t.days, .int .i64 t.uses, .int .i64 t.epoch]] w fun e w' => e = .returned (.bool b) ∧ Below w.heap.size w w' := by
  have HV := Lib.hid hb
  clear hb
  obtain ⟨w0, hw0⟩ : ∃ w0, w0 = w.alloc (.cells #[.int .i64 t.ser, .int .i64 t.kind, .int .i64 t.frm, .int .i64 t.till, .int .i64 t.cls, .int .i64 t.card, .int .i64 t.seat, .int .i64 t.day, .int .i64 t.days, .int .i64 t.uses, .int .i64 t.epoch] 39) := ⟨_, rfl⟩
  have HX : Hid (WBox w0 w.heap.size t) := Lib.hid (by rw [hw0]; exact WBox.new w t)
  have HB : Hid (Below w.heap.size w w0) := Lib.hid (by rw [hw0]; exact below_lit w _ _)
  have HW := Lib.hid hw0
  clear hw0
  obtain ⟨c0, c1, c2, c3, c4, c5, c6, c7, c8, c9, c10⟩ := HX.out.cells
  cases q1 : isN t.frm <;> cases q2 : isN t.till <;> cases q3 : (t.frm != t.till)
  all_goals
    have hb : (isN t.frm && (isN t.till && (t.frm != t.till))) = b := HV.out
    rw [q1, q2, q3] at hb
    subst hb
    have HI := Lib.hid q1
    have HJ := Lib.hid q2
    clear q1 q2
    go_enter Try.func23, Try.ntmps23
    go_wp2_with (go_at_call 31; refine (pisn_any _ _ (by first | exact HI.out | exact HJ.out) _).mono ?_; rintro e w1 ⟨rfl, rfl⟩)
    go_ret
    refine ⟨rfl, ?_⟩
    rw [← HW.out]
    exact HB.out
set_option maxHeartbeats 1600000 in
theorem phaszones_any (t : Tk) (b : Bool) (hb : zonesB t = b) (w : World) : Calls Try.prog 27 #[.agg #[.int .i64 t.ser, .int .i64 t.kind, .int .i64 t.frm, .int .i64 t.till, .int .i64 t.cls, .int .i64 t.card, .int .i64 t.seat, .int .i64 t.day, .int .i64 t.days, .int .i64 t.uses, .int .i64 t.epoch]] w fun e w' => e = .returned (.bool b) ∧ Below w.heap.size w w' := by
  have HV := Lib.hid hb
  clear hb
  obtain ⟨w0, hw0⟩ : ∃ w0, w0 = w.alloc (.cells #[.int .i64 t.ser, .int .i64 t.kind, .int .i64 t.frm, .int .i64 t.till, .int .i64 t.cls, .int .i64 t.card, .int .i64 t.seat, .int .i64 t.day, .int .i64 t.days, .int .i64 t.uses, .int .i64 t.epoch] 39) := ⟨_, rfl⟩
  have HX : Hid (WBox w0 w.heap.size t) := Lib.hid (by rw [hw0]; exact WBox.new w t)
  have HB : Hid (Below w.heap.size w w0) := Lib.hid (by rw [hw0]; exact below_lit w _ _)
  have HW := Lib.hid hw0
  clear hw0
  obtain ⟨c0, c1, c2, c3, c4, c5, c6, c7, c8, c9, c10⟩ := HX.out.cells
  obtain ⟨x, hx⟩ : ∃ x, (decide (1 ≤ t.frm) && decide (t.frm ≤ t.till)) = x := ⟨_, rfl⟩
  have hb : (x && decide (t.till ≤ 6)) = b := by rw [← hx, ← HV.out, zonesB, Bool.and_assoc]
  have HX2 := Lib.hid hx
  have HV2 := Lib.hid hb
  clear hx hb
  cases x <;> cases q3 : decide (t.till ≤ 6)
  all_goals
    have hb := HV2.out
    rw [q3] at hb
    subst hb
    go_enter Try.func27, Try.ntmps27
    go_wp2_with (go_at_call 21; refine (pwithin_any _ _ _ _ HX2.out _).mono ?_; rintro e w1 ⟨rfl, rfl⟩)
    go_ret
    refine ⟨rfl, ?_⟩
    rw [← HW.out]
    exact HB.out
set_option maxHeartbeats 1600000 in
theorem ponway_any (t : Tk) (s : Int) (v : Bool) (E : Int) (hv : betV t.frm t.till s = v) (hE : betE t.frm t.till s = E) (w : World) : Calls Try.prog 24 #[.agg #[.int .i64 t.ser, .int .i64 t.kind, .int .i64 t.frm, .int .i64 t.till, .int .i64 t.cls, .int .i64 t.card, .int .i64 t.seat, .int .i64 t.day, .int .i64 t.days, .int .i64 t.uses, .int .i64 t.epoch], .int .i64 s] w fun e w' => e = .returned (.tuple #[.bool v, .int .i64 E]) ∧ Below w.heap.size w w' := by
  have HV := Lib.hid hv
  have HE := Lib.hid hE
  clear hv hE
  obtain ⟨w0, hw0⟩ : ∃ w0, w0 = w.alloc (.cells #[.int .i64 t.ser, .int .i64 t.kind, .int .i64 t.frm, .int .i64 t.till, .int .i64 t.cls, .int .i64 t.card, .int .i64 t.seat, .int .i64 t.day, .int .i64 t.days, .int .i64 t.uses, .int .i64 t.epoch] 39) := ⟨_, rfl⟩
  have HX : Hid (WBox w0 w.heap.size t) := Lib.hid (by rw [hw0]; exact WBox.new w t)
  have HB : Hid (Below w.heap.size w w0) := Lib.hid (by rw [hw0]; exact below_lit w _ _)
  have HW := Lib.hid hw0
  clear hw0
  obtain ⟨c0, c1, c2, c3, c4, c5, c6, c7, c8, c9, c10⟩ := HX.out.cells
  go_enter Try.func24, Try.ntmps24
  go_wp2_with (go_at_call 32; refine (pbetween_any _ _ _ _ _ HV.out HE.out _).mono ?_; rintro e w1 ⟨rfl, rfl⟩)
  go_ret2
  refine ⟨rfl, ?_⟩
  rw [← HW.out]
  exact HB.out
set_option maxHeartbeats 1600000 in
theorem pinzones_any (t : Tk) (s z : Int) (v : Bool) (E : Int) (hs : In64 s) (hz : zoneV s = z) (hv : (decide (t.frm ≤ z) && decide (z ≤ t.till)) = v) (hE : zoneE s = E) (w : World) : Calls Try.prog 28 #[.agg #[.int .i64 t.ser, .int .i64 t.kind, .int .i64 t.frm, .int .i64 t.till, .int .i64 t.cls, .int .i64 t.card, .int .i64 t.seat, .int .i64 t.day, .int .i64 t.days, .int .i64 t.uses, .int .i64 t.epoch], .int .i64 s] w fun e w' => e = .returned (.tuple #[.bool v, .int .i64 E]) ∧ Below w.heap.size w w' := by
  have HV := Lib.hid hv
  have HZ := Lib.hid hz
  have HE := Lib.hid hE
  have HS := Lib.hid hs
  clear hv hE hz hs
  obtain ⟨w0, hw0⟩ : ∃ w0, w0 = w.alloc (.cells #[.int .i64 t.ser, .int .i64 t.kind, .int .i64 t.frm, .int .i64 t.till, .int .i64 t.cls, .int .i64 t.card, .int .i64 t.seat, .int .i64 t.day, .int .i64 t.days, .int .i64 t.uses, .int .i64 t.epoch] 39) := ⟨_, rfl⟩
  have HX : Hid (WBox w0 w.heap.size t) := Lib.hid (by rw [hw0]; exact WBox.new w t)
  have HB : Hid (Below w.heap.size w w0) := Lib.hid (by rw [hw0]; exact below_lit w _ _)
  have HW := Lib.hid hw0
  clear hw0
  obtain ⟨c0, c1, c2, c3, c4, c5, c6, c7, c8, c9, c10⟩ := HX.out.cells
  go_enter Try.func28, Try.ntmps28
  go_wp2_with fail
  rw [← HW.out]
  refine (pzone_any s z E _ HS.out HZ.out HE.out).mono ?_
  rintro e w1 ⟨rfl, hb⟩
  have HB1 := Lib.hid (HB.out.trans (hb.mono HB.out.size))
  obtain ⟨e0, e1, e2, e3, e4, e5, e6, e7, e8, e9, e10⟩ := (HX.out.next hb).cells
  clear hb
  go_wp2_with fail
  refine (pwithin_any _ _ _ _ HV.out _).mono ?_
  rintro e w2 ⟨rfl, e1⟩
  rw [e1]
  clear e1 w2
  go_wp2
  go_ret2
  exact ⟨rfl, HB1.out⟩
end Go.Proofs.Ytaokhkbfiplfmaa
