/-
  Contract for the reference's Is. Conditions: none.
-/
import Derived.Test.YtaokhkbfiplfmaaTicketUses
namespace Go.Proofs.Ytaokhkbfiplfmaa
set_option linter.unusedVariables false
open Go.ChangeShapes Go.WideShapes Go.ChangeAt Go.RowKit

set_option maxRecDepth 100000 in
set_option maxHeartbeats 3200000 in
theorem refis9_any (t : Tk) (b : Bool) (hb : okT t = b) (w : World) : Calls Try.prog 14 #[.agg #[.int .i64 t.ser, .int .i64 t.kind, .int .i64 t.frm, .int .i64 t.till, .int .i64 t.cls, .int .i64 t.card, .int .i64 t.seat, .int .i64 t.day, .int .i64 t.days, .int .i64 t.uses, .int .i64 t.epoch]] w fun e w' => e = .returned (.bool b) ∧ Below w.heap.size w w' := by
  have HV := Lib.hid hb
  clear hb
  obtain ⟨w0, hw0⟩ : ∃ w0, w0 = w.alloc (.cells #[.int .i64 t.ser, .int .i64 t.kind, .int .i64 t.frm, .int .i64 t.till, .int .i64 t.cls, .int .i64 t.card, .int .i64 t.seat, .int .i64 t.day, .int .i64 t.days, .int .i64 t.uses, .int .i64 t.epoch] 23) := ⟨_, rfl⟩
  have HX : Hid (TBox w0 w.heap.size t) := Lib.hid (by rw [hw0]; exact TBox.new w t)
  have HB : Hid (Below w.heap.size w w0) := Lib.hid (by rw [hw0]; exact below_lit w _ _)
  have HW := Lib.hid hw0
  clear hw0
  obtain ⟨c0, c1, c2, c3, c4, c5, c6, c7, c8, c9, c10⟩ := HX.out.cells
  cases q0 : decide (t.ser < 1)
  case true =>
    have hb : b = false := by
      rw [← HV.out]
      cases ho : okT t with
      | false => rfl
      | true =>
        exfalso
        have h1 := (numsB_iff t).1 ((okT_iff t).1 ho).1
        have h2 := (daysB_iff t).1 ((okT_iff t).1 ho).2.1
        have h3 := of_decide_eq_true q0
        omega
    subst hb
    go_enter Try.func14, Try.ntmps14
    go_wp2
    try (rw [← HW.out]; go_wp2)
    go_ret
    exact ⟨rfl, (by first | exact HB.out | (rw [← HW.out]; exact HB.out))⟩
  case false =>
    cases q1 : decide (1099511627776 < t.ser)
    case true =>
      have hb : b = false := by
        rw [← HV.out]
        cases ho : okT t with
        | false => rfl
        | true =>
          exfalso
          have h1 := (numsB_iff t).1 ((okT_iff t).1 ho).1
          have h2 := (daysB_iff t).1 ((okT_iff t).1 ho).2.1
          have h3 := of_decide_eq_true q1
          omega
      subst hb
      go_enter Try.func14, Try.ntmps14
      go_wp2
      try (rw [← HW.out]; go_wp2)
      go_ret
      exact ⟨rfl, (by first | exact HB.out | (rw [← HW.out]; exact HB.out))⟩
    case false =>
      cases q2 : decide (t.kind < 1)
      case true =>
        have hb : b = false := by
          rw [← HV.out]
          cases ho : okT t with
          | false => rfl
          | true =>
            exfalso
            have h1 := (numsB_iff t).1 ((okT_iff t).1 ho).1
            have h2 := (daysB_iff t).1 ((okT_iff t).1 ho).2.1
            have h3 := of_decide_eq_true q2
            omega
        subst hb
        go_enter Try.func14, Try.ntmps14
        go_wp2
        try (rw [← HW.out]; go_wp2)
        go_ret
        exact ⟨rfl, (by first | exact HB.out | (rw [← HW.out]; exact HB.out))⟩
      case false =>
        cases q3 : decide (4 < t.kind)
        case true =>
          have hb : b = false := by
            rw [← HV.out]
            cases ho : okT t with
            | false => rfl
            | true =>
              exfalso
              have h1 := (numsB_iff t).1 ((okT_iff t).1 ho).1
              have h2 := (daysB_iff t).1 ((okT_iff t).1 ho).2.1
              have h3 := of_decide_eq_true q3
              omega
          subst hb
          go_enter Try.func14, Try.ntmps14
          go_wp2
          try (rw [← HW.out]; go_wp2)
          go_ret
          exact ⟨rfl, (by first | exact HB.out | (rw [← HW.out]; exact HB.out))⟩
        case false =>
          cases q4 : decide (t.cls < 1)
          case true =>
            have hb : b = false := by
              rw [← HV.out]
              cases ho : okT t with
              | false => rfl
              | true =>
                exfalso
                have h1 := (numsB_iff t).1 ((okT_iff t).1 ho).1
                have h2 := (daysB_iff t).1 ((okT_iff t).1 ho).2.1
                have h3 := of_decide_eq_true q4
                omega
            subst hb
            go_enter Try.func14, Try.ntmps14
            go_wp2
            try (rw [← HW.out]; go_wp2)
            go_ret
            exact ⟨rfl, (by first | exact HB.out | (rw [← HW.out]; exact HB.out))⟩
          case false =>
            cases q5 : decide (2 < t.cls)
            case true =>
              have hb : b = false := by
                rw [← HV.out]
                cases ho : okT t with
                | false => rfl
                | true =>
                  exfalso
                  have h1 := (numsB_iff t).1 ((okT_iff t).1 ho).1
                  have h2 := (daysB_iff t).1 ((okT_iff t).1 ho).2.1
                  have h3 := of_decide_eq_true q5
                  omega
              subst hb
              go_enter Try.func14, Try.ntmps14
              go_wp2
              try (rw [← HW.out]; go_wp2)
              go_ret
              exact ⟨rfl, (by first | exact HB.out | (rw [← HW.out]; exact HB.out))⟩
            case false =>
              cases q6 : decide (t.card < 0)
              case true =>
                have hb : b = false := by
                  rw [← HV.out]
                  cases ho : okT t with
                  | false => rfl
                  | true =>
                    exfalso
                    have h1 := (numsB_iff t).1 ((okT_iff t).1 ho).1
                    have h2 := (daysB_iff t).1 ((okT_iff t).1 ho).2.1
                    have h3 := of_decide_eq_true q6
                    omega
                subst hb
                go_enter Try.func14, Try.ntmps14
                go_wp2
                try (rw [← HW.out]; go_wp2)
                go_ret
                exact ⟨rfl, (by first | exact HB.out | (rw [← HW.out]; exact HB.out))⟩
              case false =>
                cases q7 : decide (3 < t.card)
                case true =>
                  have hb : b = false := by
                    rw [← HV.out]
                    cases ho : okT t with
                    | false => rfl
                    | true =>
                      exfalso
                      have h1 := (numsB_iff t).1 ((okT_iff t).1 ho).1
                      have h2 := (daysB_iff t).1 ((okT_iff t).1 ho).2.1
                      have h3 := of_decide_eq_true q7
                      omega
                  subst hb
                  go_enter Try.func14, Try.ntmps14
                  go_wp2
                  try (rw [← HW.out]; go_wp2)
                  go_ret
                  exact ⟨rfl, (by first | exact HB.out | (rw [← HW.out]; exact HB.out))⟩
                case false =>
                  cases q8 : decide (t.seat < 0)
                  case true =>
                    have hb : b = false := by
                      rw [← HV.out]
                      cases ho : okT t with
                      | false => rfl
                      | true =>
                        exfalso
                        have h1 := (numsB_iff t).1 ((okT_iff t).1 ho).1
                        have h2 := (daysB_iff t).1 ((okT_iff t).1 ho).2.1
                        have h3 := of_decide_eq_true q8
                        omega
                    subst hb
                    go_enter Try.func14, Try.ntmps14
                    go_wp2
                    try (rw [← HW.out]; go_wp2)
                    go_ret
                    exact ⟨rfl, (by first | exact HB.out | (rw [← HW.out]; exact HB.out))⟩
                  case false =>
                    cases q9 : decide (999 < t.seat)
                    case true =>
                      have hb : b = false := by
                        rw [← HV.out]
                        cases ho : okT t with
                        | false => rfl
                        | true =>
                          exfalso
                          have h1 := (numsB_iff t).1 ((okT_iff t).1 ho).1
                          have h2 := (daysB_iff t).1 ((okT_iff t).1 ho).2.1
                          have h3 := of_decide_eq_true q9
                          omega
                      subst hb
                      go_enter Try.func14, Try.ntmps14
                      go_wp2
                      try (rw [← HW.out]; go_wp2)
                      go_ret
                      exact ⟨rfl, (by first | exact HB.out | (rw [← HW.out]; exact HB.out))⟩
                    case false =>
                      cases q10 : decide (t.day < 0)
                      case true =>
                        have hb : b = false := by
                          rw [← HV.out]
                          cases ho : okT t with
                          | false => rfl
                          | true =>
                            exfalso
                            have h1 := (numsB_iff t).1 ((okT_iff t).1 ho).1
                            have h2 := (daysB_iff t).1 ((okT_iff t).1 ho).2.1
                            have h3 := of_decide_eq_true q10
                            omega
                        subst hb
                        go_enter Try.func14, Try.ntmps14
                        go_wp2
                        try (rw [← HW.out]; go_wp2)
                        go_ret
                        exact ⟨rfl, (by first | exact HB.out | (rw [← HW.out]; exact HB.out))⟩
                      case false =>
                        cases q11 : decide (99999 < t.day)
                        case true =>
                          have hb : b = false := by
                            rw [← HV.out]
                            cases ho : okT t with
                            | false => rfl
                            | true =>
                              exfalso
                              have h1 := (numsB_iff t).1 ((okT_iff t).1 ho).1
                              have h2 := (daysB_iff t).1 ((okT_iff t).1 ho).2.1
                              have h3 := of_decide_eq_true q11
                              omega
                          subst hb
                          go_enter Try.func14, Try.ntmps14
                          go_wp2
                          try (rw [← HW.out]; go_wp2)
                          go_ret
                          exact ⟨rfl, (by first | exact HB.out | (rw [← HW.out]; exact HB.out))⟩
                        case false =>
                          cases q12 : decide (t.days < 1)
                          case true =>
                            have hb : b = false := by
                              rw [← HV.out]
                              cases ho : okT t with
                              | false => rfl
                              | true =>
                                exfalso
                                have h1 := (numsB_iff t).1 ((okT_iff t).1 ho).1
                                have h2 := (daysB_iff t).1 ((okT_iff t).1 ho).2.1
                                have h3 := of_decide_eq_true q12
                                omega
                            subst hb
                            go_enter Try.func14, Try.ntmps14
                            go_wp2
                            try (rw [← HW.out]; go_wp2)
                            go_ret
                            exact ⟨rfl, (by first | exact HB.out | (rw [← HW.out]; exact HB.out))⟩
                          case false =>
                            cases q13 : decide (999 < t.days)
                            case true =>
                              have hb : b = false := by
                                rw [← HV.out]
                                cases ho : okT t with
                                | false => rfl
                                | true =>
                                  exfalso
                                  have h1 := (numsB_iff t).1 ((okT_iff t).1 ho).1
                                  have h2 := (daysB_iff t).1 ((okT_iff t).1 ho).2.1
                                  have h3 := of_decide_eq_true q13
                                  omega
                              subst hb
                              go_enter Try.func14, Try.ntmps14
                              go_wp2
                              try (rw [← HW.out]; go_wp2)
                              go_ret
                              exact ⟨rfl, (by first | exact HB.out | (rw [← HW.out]; exact HB.out))⟩
                            case false =>
                              have wd : IntKind.i64.wrap (t.day + t.days) = t.day + t.days := IntWalk.i64_in _ (by have := of_decide_eq_false q10; have := of_decide_eq_false q11; have := of_decide_eq_false q12; have := of_decide_eq_false q13; omega)
                              cases q14 : decide (100000 < t.day + t.days)
                              case true =>
                                have hb : b = false := by
                                  rw [← HV.out]
                                  cases ho : okT t with
                                  | false => rfl
                                  | true =>
                                    exfalso
                                    have h1 := (numsB_iff t).1 ((okT_iff t).1 ho).1
                                    have h2 := (daysB_iff t).1 ((okT_iff t).1 ho).2.1
                                    have h3 := of_decide_eq_true q14
                                    omega
                                subst hb
                                go_enter Try.func14, Try.ntmps14
                                go_wp2
                                try (rw [← HW.out]; go_wp2)
                                go_ret
                                exact ⟨rfl, (by first | exact HB.out | (rw [← HW.out]; exact HB.out))⟩
                              case false =>
                                cases q15 : decide (t.epoch < 0)
                                case true =>
                                  have hb : b = false := by
                                    rw [← HV.out]
                                    cases ho : okT t with
                                    | false => rfl
                                    | true =>
                                      exfalso
                                      have h1 := (numsB_iff t).1 ((okT_iff t).1 ho).1
                                      have h2 := (daysB_iff t).1 ((okT_iff t).1 ho).2.1
                                      have h3 := of_decide_eq_true q15
                                      omega
                                  subst hb
                                  go_enter Try.func14, Try.ntmps14
                                  go_wp2
                                  try (rw [← HW.out]; go_wp2)
                                  go_ret
                                  exact ⟨rfl, (by first | exact HB.out | (rw [← HW.out]; exact HB.out))⟩
                                case false =>
                                  cases q16 : decide (9 < t.epoch)
                                  case true =>
                                    have hb : b = false := by
                                      rw [← HV.out]
                                      cases ho : okT t with
                                      | false => rfl
                                      | true =>
                                        exfalso
                                        have h1 := (numsB_iff t).1 ((okT_iff t).1 ho).1
                                        have h2 := (daysB_iff t).1 ((okT_iff t).1 ho).2.1
                                        have h3 := of_decide_eq_true q16
                                        omega
                                    subst hb
                                    go_enter Try.func14, Try.ntmps14
                                    go_wp2
                                    try (rw [← HW.out]; go_wp2)
                                    go_ret
                                    exact ⟨rfl, (by first | exact HB.out | (rw [← HW.out]; exact HB.out))⟩
                                  case false =>
                                    have hn : numsB t = true := by
                                      rw [numsB_iff]
                                      simp only [decide_eq_false_iff_not] at q0 q1 q2 q3 q4 q5 q6 q7 q8 q9
                                      omega
                                    have hd : daysB t = true := by
                                      rw [daysB_iff]
                                      simp only [decide_eq_false_iff_not] at q10 q11 q12 q13 q14 q15 q16
                                      omega
                                    have hv : (placeB t && usesB t) = b := by rw [← HV.out, okT, hn, hd]; rfl
                                    have HV2 := Lib.hid hv
                                    clear hn hd hv
                                    cases hp : placeB t
                                    case false =>
                                      have hb := HV2.out
                                      rw [hp] at hb
                                      subst hb
                                      have HP := Lib.hid hp
                                      clear hp
                                      go_enter Try.func14, Try.ntmps14
                                      go_wp2_with fail
                                      rw [← HW.out]
                                      refine (refplace_any t false HP.out w0).mono ?_
                                      rintro e w1 ⟨rfl, hb⟩
                                      have HB1 := Lib.hid (HB.out.trans (hb.mono HB.out.size))
                                      clear hb
                                      go_wp2
                                      go_ret
                                      exact ⟨rfl, HB1.out⟩
                                    case true =>
                                      have hb : usesB t = b := by rw [← HV2.out, hp]; rfl
                                      have HU := Lib.hid hb
                                      have HP := Lib.hid hp
                                      clear hp hb
                                      go_enter Try.func14, Try.ntmps14
                                      go_wp2_with fail
                                      rw [← HW.out]
                                      refine (refplace_any t true HP.out w0).mono ?_
                                      rintro e w1 ⟨rfl, hb⟩
                                      have HB1 := Lib.hid (HB.out.trans (hb.mono HB.out.size))
                                      obtain ⟨e0, e1, e2, e3, e4, e5, e6, e7, e8, e9, e10⟩ := (HX.out.next hb).cells
                                      clear hb
                                      go_wp2_with fail
                                      refine (refuses_any t b HU.out w1).mono ?_
                                      rintro e w2 ⟨rfl, hb⟩
                                      have HB2 := Lib.hid (HB1.out.trans (hb.mono HB1.out.size))
                                      clear hb
                                      go_wp2
                                      go_ret
                                      exact ⟨rfl, HB2.out⟩
end Go.Proofs.Ytaokhkbfiplfmaa
