/-
  Contract for the landed holdsBounds. Conditions: none.
-/
import Derived.Test.YtaokhkbfiplfmaaTicketPSmall
namespace Go.Proofs.Ytaokhkbfiplfmaa
set_option linter.unusedVariables false
open Go.ChangeShapes Go.WideShapes Go.ChangeAt Go.RowKit


def inB (n a b : Int) : Bool := decide (a ≤ n) && decide (n ≤ b)
theorem inB_iff {n a b : Int} : inB n a b = true ↔ a ≤ n ∧ n ≤ b := by simp [inB]
def hbB (t : Tk) : Bool := inB t.ser 1 1099511627776 && (inB t.cls 1 2 && (inB t.card 0 3 && (inB t.seat 0 999 && (inB t.day 0 99999 && (inB t.days 1 999 && (decide (t.day + t.days - 1 ≤ 99999) && (inB t.epoch 0 9)))))))
set_option maxRecDepth 20000 in
set_option maxHeartbeats 3200000 in
theorem pbounds_any (t : Tk) (b : Bool) (hb : hbB t = b) (w : World) : Calls Try.prog 20 #[.agg #[.int .i64 t.ser, .int .i64 t.kind, .int .i64 t.frm, .int .i64 t.till, .int .i64 t.cls, .int .i64 t.card, .int .i64 t.seat, .int .i64 t.day, .int .i64 t.days, .int .i64 t.uses, .int .i64 t.epoch]] w fun e w' => e = .returned (.bool b) ∧ Below w.heap.size w w' := by
  have HV := Lib.hid hb
  clear hb
  obtain ⟨w0, hw0⟩ : ∃ w0, w0 = w.alloc (.cells #[.int .i64 t.ser, .int .i64 t.kind, .int .i64 t.frm, .int .i64 t.till, .int .i64 t.cls, .int .i64 t.card, .int .i64 t.seat, .int .i64 t.day, .int .i64 t.days, .int .i64 t.uses, .int .i64 t.epoch] 39) := ⟨_, rfl⟩
  have HX : Hid (WBox w0 w.heap.size t) := Lib.hid (by rw [hw0]; exact WBox.new w t)
  have HB : Hid (Below w.heap.size w w0) := Lib.hid (by rw [hw0]; exact below_lit w _ _)
  have HW := Lib.hid hw0
  clear hw0
  obtain ⟨c0, c1, c2, c3, c4, c5, c6, c7, c8, c9, c10⟩ := HX.out.cells
  cases q0 : inB t.ser 1 1099511627776
  case false =>
    have Q0 := Lib.hid q0
    clear q0
    have hb : b = false := by rw [← HV.out, hbB, Q0.out]; try rfl
    subst hb
    go_enter Try.func20, Try.ntmps20
    go_wp2_with (go_at_call 21; refine (pwithin_any _ _ _ _ (by first | exact Q0.out) _).mono ?_; rintro e w1 ⟨rfl, rfl⟩)
    go_ret
    refine ⟨rfl, ?_⟩
    rw [← HW.out]
    exact HB.out
  case true =>
    have Q0 := Lib.hid q0
    clear q0
    cases q1 : inB t.cls 1 2
    case false =>
      have Q1 := Lib.hid q1
      clear q1
      have hb : b = false := by rw [← HV.out, hbB, Q0.out, Q1.out]; try rfl
      subst hb
      go_enter Try.func20, Try.ntmps20
      go_wp2_with (go_at_call 21; refine (pwithin_any _ _ _ _ (by first | exact Q0.out | exact Q1.out) _).mono ?_; rintro e w1 ⟨rfl, rfl⟩)
      go_ret
      refine ⟨rfl, ?_⟩
      rw [← HW.out]
      exact HB.out
    case true =>
      have Q1 := Lib.hid q1
      clear q1
      cases q2 : inB t.card 0 3
      case false =>
        have Q2 := Lib.hid q2
        clear q2
        have hb : b = false := by rw [← HV.out, hbB, Q0.out, Q1.out, Q2.out]; try rfl
        subst hb
        go_enter Try.func20, Try.ntmps20
        go_wp2_with (go_at_call 21; refine (pwithin_any _ _ _ _ (by first | exact Q0.out | exact Q1.out | exact Q2.out) _).mono ?_; rintro e w1 ⟨rfl, rfl⟩)
        go_ret
        refine ⟨rfl, ?_⟩
        rw [← HW.out]
        exact HB.out
      case true =>
        have Q2 := Lib.hid q2
        clear q2
        cases q3 : inB t.seat 0 999
        case false =>
          have Q3 := Lib.hid q3
          clear q3
          have hb : b = false := by rw [← HV.out, hbB, Q0.out, Q1.out, Q2.out, Q3.out]; try rfl
          subst hb
          go_enter Try.func20, Try.ntmps20
          go_wp2_with (go_at_call 21; refine (pwithin_any _ _ _ _ (by first | exact Q0.out | exact Q1.out | exact Q2.out | exact Q3.out) _).mono ?_; rintro e w1 ⟨rfl, rfl⟩)
          go_ret
          refine ⟨rfl, ?_⟩
          rw [← HW.out]
          exact HB.out
        case true =>
          have Q3 := Lib.hid q3
          clear q3
          cases q4 : inB t.day 0 99999
          case false =>
            have Q4 := Lib.hid q4
            clear q4
            have hb : b = false := by rw [← HV.out, hbB, Q0.out, Q1.out, Q2.out, Q3.out, Q4.out]; try rfl
            subst hb
            go_enter Try.func20, Try.ntmps20
            go_wp2_with (go_at_call 21; refine (pwithin_any _ _ _ _ (by first | exact Q0.out | exact Q1.out | exact Q2.out | exact Q3.out | exact Q4.out) _).mono ?_; rintro e w1 ⟨rfl, rfl⟩)
            go_ret
            refine ⟨rfl, ?_⟩
            rw [← HW.out]
            exact HB.out
          case true =>
            have Q4 := Lib.hid q4
            clear q4
            cases q5 : inB t.days 1 999
            case false =>
              have Q5 := Lib.hid q5
              clear q5
              have hb : b = false := by rw [← HV.out, hbB, Q0.out, Q1.out, Q2.out, Q3.out, Q4.out, Q5.out]; try rfl
              subst hb
              go_enter Try.func20, Try.ntmps20
              go_wp2_with (go_at_call 21; refine (pwithin_any _ _ _ _ (by first | exact Q0.out | exact Q1.out | exact Q2.out | exact Q3.out | exact Q4.out | exact Q5.out) _).mono ?_; rintro e w1 ⟨rfl, rfl⟩)
              go_ret
              refine ⟨rfl, ?_⟩
              rw [← HW.out]
              exact HB.out
            case true =>
              have Q5 := Lib.hid q5
              clear q5
              have h4 := inB_iff.1 Q4.out
              have h5 := inB_iff.1 Q5.out
              have v1 : IntKind.i64.wrap (t.day + t.days) = t.day + t.days := IntWalk.i64_in _ (by omega)
              have v2 : IntKind.i64.wrap (t.day + t.days - 1) = t.day + t.days - 1 := IntWalk.i64_in _ (by omega)
              clear h4 h5
              cases q6 : decide (t.day + t.days - 1 ≤ 99999)
              case false =>
                have Q6 := Lib.hid q6
                have hb : b = false := by rw [← HV.out, hbB, Q0.out, Q1.out, Q2.out, Q3.out, Q4.out, Q5.out, Q6.out]; try rfl
                subst hb
                go_enter Try.func20, Try.ntmps20
                go_wp2_with (go_at_call 21; refine (pwithin_any _ _ _ _ (by first | exact Q0.out | exact Q1.out | exact Q2.out | exact Q3.out | exact Q4.out | exact Q5.out) _).mono ?_; rintro e w1 ⟨rfl, rfl⟩)
                go_ret
                refine ⟨rfl, ?_⟩
                rw [← HW.out]
                exact HB.out
              case true =>
                have Q6 := Lib.hid q6
                cases q7 : inB t.epoch 0 9
                case false =>
                  have Q7 := Lib.hid q7
                  clear q7
                  have hb : b = false := by rw [← HV.out, hbB, Q0.out, Q1.out, Q2.out, Q3.out, Q4.out, Q5.out, Q6.out, Q7.out]; try rfl
                  subst hb
                  go_enter Try.func20, Try.ntmps20
                  go_wp2_with (go_at_call 21; refine (pwithin_any _ _ _ _ (by first | exact Q0.out | exact Q1.out | exact Q2.out | exact Q3.out | exact Q4.out | exact Q5.out | exact Q7.out) _).mono ?_; rintro e w1 ⟨rfl, rfl⟩)
                  go_ret
                  refine ⟨rfl, ?_⟩
                  rw [← HW.out]
                  exact HB.out
                case true =>
                  have Q7 := Lib.hid q7
                  clear q7
                  have hb : b = true := by rw [← HV.out, hbB, Q0.out, Q1.out, Q2.out, Q3.out, Q4.out, Q5.out, Q6.out, Q7.out]; try rfl
                  subst hb
                  go_enter Try.func20, Try.ntmps20
                  go_wp2_with (go_at_call 21; refine (pwithin_any _ _ _ _ (by first | exact Q0.out | exact Q1.out | exact Q2.out | exact Q3.out | exact Q4.out | exact Q5.out | exact Q7.out) _).mono ?_; rintro e w1 ⟨rfl, rfl⟩)
                  go_ret
                  refine ⟨rfl, ?_⟩
                  rw [← HW.out]
                  exact HB.out
end Go.Proofs.Ytaokhkbfiplfmaa
