/-
  Contracts for the reference's Last and Covers. Conditions: the station fits an int.
-/
import Derived.Test.YtmcdidbcfhgijaaTicketRefIs
namespace Go.Proofs.Ytmcdidbcfhgijaa
set_option linter.unusedVariables false
open Go.ChangeShapes Go.WideShapes Go.ChangeAt Go.RowKit

set_option maxRecDepth 100000 in
set_option maxHeartbeats 3200000 in
theorem reflast_any (t : Tk) (v E : Int) (hv : lastV t = v) (hE : errT t = E) (w : World) : Calls Try.prog 8 #[.agg #[.int .i64 t.ser, .int .i64 t.kind, .int .i64 t.frm, .int .i64 t.till, .int .i64 t.cls, .int .i64 t.card, .int .i64 t.seat, .int .i64 t.day, .int .i64 t.days, .int .i64 t.uses, .int .i64 t.epoch]] w fun e w' => e = .returned (.tuple #[.int .i64 v, .int .i64 E]) ∧ Below w.heap.size w w' := by
  have HV := Lib.hid hv
  have HE := Lib.hid hE
  clear hv hE
  obtain ⟨w0, hw0⟩ : ∃ w0, w0 = w.alloc (.cells #[.int .i64 t.ser, .int .i64 t.kind, .int .i64 t.frm, .int .i64 t.till, .int .i64 t.cls, .int .i64 t.card, .int .i64 t.seat, .int .i64 t.day, .int .i64 t.days, .int .i64 t.uses, .int .i64 t.epoch] 23) := ⟨_, rfl⟩
  have HX : Hid (TBox w0 w.heap.size t) := Lib.hid (by rw [hw0]; exact TBox.new w t)
  have HB : Hid (Below w.heap.size w w0) := Lib.hid (by rw [hw0]; exact below_lit w _ _)
  have HW := Lib.hid hw0
  clear hw0
  obtain ⟨c0, c1, c2, c3, c4, c5, c6, c7, c8, c9, c10⟩ := HX.out.cells
  cases h : okT t
  case false =>
    have hv : v = 0 := by rw [← HV.out, lastV, h]; rfl
    have hE : E = 1 := by rw [← HE.out, errT, h]; rfl
    subst hv hE
    have HO := Lib.hid h
    clear h
    go_enter Try.func8, Try.ntmps8
    go_wp2_with fail
    rw [← HW.out]
    refine (refis9_any t false HO.out w0).mono ?_
    rintro e w1 ⟨rfl, hb⟩
    have HB1 := Lib.hid (HB.out.trans (hb.mono HB.out.size))
    clear hb
    go_wp2
    go_ret2
    exact ⟨rfl, HB1.out⟩
  case true =>
    have hv : t.day + t.days - 1 = v := by rw [← HV.out, lastV, if_pos h]
    have hE : E = 0 := by rw [← HE.out, errT, if_pos h]
    subst hE
    have h2 := (daysB_iff t).1 ((okT_iff t).1 h).2.1
    have w1 : IntKind.i64.wrap (t.day + t.days) = t.day + t.days := IntWalk.i64_in _ (by omega)
    have w2 : IntKind.i64.wrap (t.day + t.days - 1) = t.day + t.days - 1 := IntWalk.i64_in _ (by omega)
    have HO := Lib.hid h
    have HV2 := Lib.hid hv
    clear h h2 hv
    go_enter Try.func8, Try.ntmps8
    go_wp2_with fail
    rw [← HW.out]
    refine (refis9_any t true HO.out w0).mono ?_
    rintro e w1 ⟨rfl, hb⟩
    have HB1 := Lib.hid (HB.out.trans (hb.mono HB.out.size))
    obtain ⟨e0, e1, e2, e3, e4, e5, e6, e7, e8, e9, e10⟩ := (HX.out.next hb).cells
    clear hb
    go_wp2
    go_ret2
    exact ⟨by rw [← HV2.out]; rfl, HB1.out⟩
set_option maxRecDepth 100000 in
set_option maxHeartbeats 3200000 in
theorem refcovers_any (t : Tk) (s : Int) (b : Bool) (E : Int) (hv : covV t s = b) (hE : covE t s = E) (w : World) : Calls Try.prog 10 #[.agg #[.int .i64 t.ser, .int .i64 t.kind, .int .i64 t.frm, .int .i64 t.till, .int .i64 t.cls, .int .i64 t.card, .int .i64 t.seat, .int .i64 t.day, .int .i64 t.days, .int .i64 t.uses, .int .i64 t.epoch], .int .i64 s] w fun e w' => e = .returned (.tuple #[.bool b, .int .i64 E]) ∧ Below w.heap.size w w' := by
  have HV := Lib.hid hv
  have HE := Lib.hid hE
  clear hv hE
  obtain ⟨w0, hw0⟩ : ∃ w0, w0 = w.alloc (.cells #[.int .i64 t.ser, .int .i64 t.kind, .int .i64 t.frm, .int .i64 t.till, .int .i64 t.cls, .int .i64 t.card, .int .i64 t.seat, .int .i64 t.day, .int .i64 t.days, .int .i64 t.uses, .int .i64 t.epoch] 23) := ⟨_, rfl⟩
  have HX : Hid (TBox w0 w.heap.size t) := Lib.hid (by rw [hw0]; exact TBox.new w t)
  have HB : Hid (Below w.heap.size w w0) := Lib.hid (by rw [hw0]; exact below_lit w _ _)
  have HW := Lib.hid hw0
  clear hw0
  obtain ⟨c0, c1, c2, c3, c4, c5, c6, c7, c8, c9, c10⟩ := HX.out.cells
  obtain ⟨z, hz⟩ : ∃ z, zoneV s = z := ⟨_, rfl⟩
  have HZ := Lib.hid hz
  clear hz
  cases ho : okT t
  case false =>
    have hk : okV t s = false := by rw [okV, ho]; rfl
    have hv : b = false := by rw [← HV.out, covV, hk]; rfl
    have hE : E = 1 := by rw [← HE.out, covE, hk]; rfl
    subst hv hE
    obtain ⟨f, hf⟩ : ∃ f, zoneE s = f := ⟨_, rfl⟩
    have HF := Lib.hid hf
    have HO := Lib.hid ho
    clear hk hf ho
    go_enter Try.func10, Try.ntmps10
    go_wp2_with fail
    rw [← HW.out]
    refine (refzone_any s z f HZ.out HF.out w0).mono ?_
    rintro e w1 ⟨rfl, e1⟩
    rw [e1]
    clear e1 w1
    go_wp2_with fail
    refine (refis9_any t false HO.out w0).mono ?_
    rintro e w2 ⟨rfl, hb⟩
    have HB2 := Lib.hid (HB.out.trans (hb.mono HB.out.size))
    obtain ⟨e0, e1, e2, e3, e4, e5, e6, e7, e8, e9, e10⟩ := (HX.out.next hb).cells
    clear hb
    go_wp2
    go_ret2
    exact ⟨rfl, HB2.out⟩
  case true =>
    cases hs : isN s
    case false =>
      have hk : okV t s = false := by rw [okV, ho, hs]; rfl
      have hv : b = false := by rw [← HV.out, covV, hk]; rfl
      have hE : E = 1 := by rw [← HE.out, covE, hk]; rfl
      subst hv hE
      have HF := Lib.hid (show zoneE s = 1 by rw [zoneE, hs]; rfl)
      have HO := Lib.hid ho
      clear hk ho hs
      go_enter Try.func10, Try.ntmps10
      go_wp2_with fail
      rw [← HW.out]
      refine (refzone_any s z 1 HZ.out HF.out w0).mono ?_
      rintro e w1 ⟨rfl, e1⟩
      rw [e1]
      clear e1 w1
      go_wp2_with fail
      refine (refis9_any t true HO.out w0).mono ?_
      rintro e w2 ⟨rfl, hb⟩
      have HB2 := Lib.hid (HB.out.trans (hb.mono HB.out.size))
      obtain ⟨e0, e1, e2, e3, e4, e5, e6, e7, e8, e9, e10⟩ := (HX.out.next hb).cells
      clear hb
      go_wp2
      go_ret2
      exact ⟨rfl, HB2.out⟩
    case true =>
      have hk : okV t s = true := by rw [okV, ho, hs]; rfl
      have hv : covN t s = b := by rw [← HV.out, covV, if_pos hk]
      have hE : E = 0 := by rw [← HE.out, covE, if_pos hk]
      subst hE
      have hz : zn s = z := by rw [← HZ.out, zoneV, if_pos hs]
      have HF := Lib.hid (show zoneE s = 0 by rw [zoneE, if_pos hs])
      by_cases h3 : t.kind = 3
      · have q : (t.kind == 3) = true := by rw [beq_iff_eq]; exact h3
        have hb : (decide (t.frm ≤ z) && decide (z ≤ t.till)) = b := by rw [← hv, covN, if_pos h3, hz]
        have HV2 := Lib.hid hb
        have HO := Lib.hid ho
        clear hk hv hb hz ho hs h3
        cases q1 : decide (t.frm ≤ z) <;> cases q2 : decide (z ≤ t.till)
        all_goals
          have hb := HV2.out
          rw [q1, q2] at hb
          subst hb
          go_enter Try.func10, Try.ntmps10
          go_wp2_with fail
          rw [← HW.out]
          refine (refzone_any s z 0 HZ.out HF.out w0).mono ?_
          rintro e w1 ⟨rfl, e1⟩
          rw [e1]
          clear e1 w1
          go_wp2_with fail
          refine (refis9_any t true HO.out w0).mono ?_
          rintro e w2 ⟨rfl, hb⟩
          have HB2 := Lib.hid (HB.out.trans (hb.mono HB.out.size))
          obtain ⟨e0, e1, e2, e3, e4, e5, e6, e7, e8, e9, e10⟩ := (HX.out.next hb).cells
          clear hb
          go_wp2
          go_ret2
          exact ⟨rfl, HB2.out⟩
      · have q : (t.kind == 3) = false := by rw [beq_eq_false_iff_ne]; exact h3
        have hb : between t.frm t.till s = b := by rw [← hv, covN, if_neg h3]
        have hw := way_of ho h3
        have h4 : is3 t.frm t.till s = true := (is3_iff _ _ _).2 ⟨hw.1, hw.2.1, hs⟩
        have HBV := Lib.hid (show betV t.frm t.till s = b by rw [betV, if_pos h4]; exact hb)
        have HBE := Lib.hid (show betE t.frm t.till s = 0 by rw [betE, if_pos h4])
        have HO := Lib.hid ho
        clear hk hv hb hz ho hs h3 hw h4
        go_enter Try.func10, Try.ntmps10
        go_wp2_with fail
        rw [← HW.out]
        refine (refzone_any s z 0 HZ.out HF.out w0).mono ?_
        rintro e w1 ⟨rfl, e1⟩
        rw [e1]
        clear e1 w1
        go_wp2_with fail
        refine (refis9_any t true HO.out w0).mono ?_
        rintro e w2 ⟨rfl, hb⟩
        have HB2 := Lib.hid (HB.out.trans (hb.mono HB.out.size))
        obtain ⟨e0, e1, e2, e3, e4, e5, e6, e7, e8, e9, e10⟩ := (HX.out.next hb).cells
        clear hb
        go_wp2_with fail
        refine (refbetween_any t.frm t.till s b 0 HBV.out HBE.out w2).mono ?_
        rintro e w3 ⟨rfl, e1⟩
        rw [e1]
        clear e1 w3
        go_wp2
        go_ret2
        exact ⟨rfl, HB2.out⟩
end Go.Proofs.Ytmcdidbcfhgijaa
