/-
  Contracts for the landed Is, Last, Covers and Price. Conditions: none.
-/
import Derived.Test.YtmcdidbcfhgijaaTicketPRightAll
import Derived.Test.YtmcdidbcfhgijaaTicketPPrice
namespace Go.Proofs.Ytmcdidbcfhgijaa
set_option linter.unusedVariables false
open Go.ChangeShapes Go.WideShapes Go.ChangeAt Go.RowKit


theorem kinds_of {t : Tk} (h : okT t = true) : t.kind = 1 ∨ t.kind = 2 ∨ t.kind = 3 ∨ t.kind = 4 := by
  have hn := (numsB_iff t).1 ((okT_iff t).1 h).1
  omega
theorem cov_way {t : Tk} (h : okT t = true) (hk : t.kind ≠ 3) (s : Int) : covV t s = betV t.frm t.till s ∧ covE t s = betE t.frm t.till s := by
  obtain ⟨h1, h2, _⟩ := way_of h hk
  have e : is3 t.frm t.till s = okV t s := by rw [is3, okV, h1, h2, h]; rfl
  rw [covV, covE, betV, betE, e, covN, if_neg hk]
  exact ⟨rfl, rfl⟩
theorem cov_zones {t : Tk} (h : okT t = true) (hk : t.kind = 3) (s : Int) : covV t s = (decide (t.frm ≤ zoneV s) && decide (zoneV s ≤ t.till)) ∧ covE t s = zoneE s := by
  have hz := zones_of h hk
  have e : okV t s = isN s := by rw [okV, h]; rfl
  rw [covV, covE, e, covN, if_pos hk, zoneV, zoneE]
  refine ⟨?_, rfl⟩
  cases isN s with
  | true => rfl
  | false =>
    have : decide (t.frm ≤ 0) = false := decide_eq_false (by omega)
    simp [this]
set_option maxRecDepth 20000 in
set_option maxHeartbeats 3200000 in
theorem pis9_any (t : Tk) (b : Bool) (hb : okT t = b) (w : World) : Calls Try.prog 12 #[.agg #[.int .i64 t.ser, .int .i64 t.kind, .int .i64 t.frm, .int .i64 t.till, .int .i64 t.cls, .int .i64 t.card, .int .i64 t.seat, .int .i64 t.day, .int .i64 t.days, .int .i64 t.uses, .int .i64 t.epoch]] w fun e w' => e = .returned (.bool b) ∧ Below w.heap.size w w' := by
  cases b with
  | false =>
    have HO := Lib.hid hb
    clear hb
    go_enter Try.func12, Try.ntmps12
    go_wp2_with fail
    refine (pright_no t HO.out _).mono ?_
    rintro e w1 ⟨rfl, hb⟩
    have HB1 := Lib.hid (((Below.refl _ w).alloc (Nat.le_refl _) _).trans (hb.mono (by simp)))
    clear hb
    go_wp2
    go_ret
    exact ⟨rfl, HB1.out.alloc HB1.out.size _⟩
  | true =>
    have HO := Lib.hid hb
    have hk := kinds_of hb
    clear hb
    rcases hk with hk | hk | hk | hk
    · have HK := Lib.hid hk
      clear hk
      go_enter Try.func12, Try.ntmps12
      go_wp2_with fail
      refine (pright_1 t HK.out HO.out _).mono ?_
      rintro e w1 ⟨rfl, hb⟩
      have HB1 := Lib.hid (((Below.refl _ w).alloc (Nat.le_refl _) _).trans (hb.mono (by simp)))
      clear hb
      go_wp2
      go_ret
      exact ⟨rfl, HB1.out.alloc HB1.out.size _⟩
    · have HK := Lib.hid hk
      clear hk
      go_enter Try.func12, Try.ntmps12
      go_wp2_with fail
      refine (pright_2 t HK.out HO.out _).mono ?_
      rintro e w1 ⟨rfl, hb⟩
      have HB1 := Lib.hid (((Below.refl _ w).alloc (Nat.le_refl _) _).trans (hb.mono (by simp)))
      clear hb
      go_wp2
      go_ret
      exact ⟨rfl, HB1.out.alloc HB1.out.size _⟩
    · have HK := Lib.hid hk
      clear hk
      go_enter Try.func12, Try.ntmps12
      go_wp2_with fail
      refine (pright_3 t HK.out HO.out _).mono ?_
      rintro e w1 ⟨rfl, hb⟩
      have HB1 := Lib.hid (((Below.refl _ w).alloc (Nat.le_refl _) _).trans (hb.mono (by simp)))
      clear hb
      go_wp2
      go_ret
      exact ⟨rfl, HB1.out.alloc HB1.out.size _⟩
    · have HK := Lib.hid hk
      clear hk
      go_enter Try.func12, Try.ntmps12
      go_wp2_with fail
      refine (pright_4 t HK.out HO.out _).mono ?_
      rintro e w1 ⟨rfl, hb⟩
      have HB1 := Lib.hid (((Below.refl _ w).alloc (Nat.le_refl _) _).trans (hb.mono (by simp)))
      clear hb
      go_wp2
      go_ret
      exact ⟨rfl, HB1.out.alloc HB1.out.size _⟩
set_option maxRecDepth 20000 in
set_option maxHeartbeats 3200000 in
theorem plast_any (t : Tk) (v E : Int) (hv : lastV t = v) (hE : errT t = E) (w : World) : Calls Try.prog 7 #[.agg #[.int .i64 t.ser, .int .i64 t.kind, .int .i64 t.frm, .int .i64 t.till, .int .i64 t.cls, .int .i64 t.card, .int .i64 t.seat, .int .i64 t.day, .int .i64 t.days, .int .i64 t.uses, .int .i64 t.epoch]] w fun e w' => e = .returned (.tuple #[.int .i64 v, .int .i64 E]) ∧ Below w.heap.size w w' := by
  have HV := Lib.hid hv
  have HE := Lib.hid hE
  clear hv hE
  obtain ⟨w0, hw0⟩ : ∃ w0, w0 = w.alloc (.cells #[.int .i64 t.ser, .int .i64 t.kind, .int .i64 t.frm, .int .i64 t.till, .int .i64 t.cls, .int .i64 t.card, .int .i64 t.seat, .int .i64 t.day, .int .i64 t.days, .int .i64 t.uses, .int .i64 t.epoch] 23) := ⟨_, rfl⟩
  have HX : Hid (TBox w0 w.heap.size t) := Lib.hid (by rw [hw0]; exact TBox.new w t)
  have HB : Hid (Below w.heap.size w w0) := Lib.hid (by rw [hw0]; exact below_lit w _ _)
  have HW := Lib.hid hw0
  clear hw0
  obtain ⟨c0, c1, c2, c3, c4, c5, c6, c7, c8, c9, c10⟩ := HX.out.cells
  cases h : okT t
  case false =>
    have hv : v = 0 := by rw [← HV.out, lastV, h]; rfl
    have hE : E = 1 := by rw [← HE.out, errT, h]; rfl
    subst hv hE
    have HO := Lib.hid h
    clear h
    go_enter Try.func7, Try.ntmps7
    go_wp2_with fail
    rw [← HW.out]
    refine (pis9_any t false HO.out w0).mono ?_
    rintro e w1 ⟨rfl, hb⟩
    have HB1 := Lib.hid (HB.out.trans (hb.mono HB.out.size))
    clear hb
    go_wp2
    go_ret2
    exact ⟨rfl, HB1.out⟩
  case true =>
    have hv : t.day + t.days - 1 = v := by rw [← HV.out, lastV, if_pos h]
    have hE : E = 0 := by rw [← HE.out, errT, if_pos h]
    subst hE
    have h2 := (daysB_iff t).1 ((okT_iff t).1 h).2.1
    have w1 : IntKind.i64.wrap (t.day + t.days) = t.day + t.days := IntWalk.i64_in _ (by omega)
    have w2 : IntKind.i64.wrap (t.day + t.days - 1) = t.day + t.days - 1 := IntWalk.i64_in _ (by omega)
    have HO := Lib.hid h
    have HV2 := Lib.hid hv
    clear h h2 hv
    go_enter Try.func7, Try.ntmps7
    go_wp2_with fail
    rw [← HW.out]
    refine (pis9_any t true HO.out w0).mono ?_
    rintro e w1 ⟨rfl, hb⟩
    have HB1 := Lib.hid (HB.out.trans (hb.mono HB.out.size))
    obtain ⟨e0, e1, e2, e3, e4, e5, e6, e7, e8, e9, e10⟩ := (HX.out.next hb).cells
    clear hb
    go_wp2
    go_ret2
    exact ⟨by rw [← HV2.out]; rfl, HB1.out⟩
set_option maxRecDepth 20000 in
set_option maxHeartbeats 3200000 in
theorem pcovers_any (t : Tk) (s : Int) (b : Bool) (E : Int) (hs : In64 s) (hv : covV t s = b) (hE : covE t s = E) (w : World) : Calls Try.prog 9 #[.agg #[.int .i64 t.ser, .int .i64 t.kind, .int .i64 t.frm, .int .i64 t.till, .int .i64 t.cls, .int .i64 t.card, .int .i64 t.seat, .int .i64 t.day, .int .i64 t.days, .int .i64 t.uses, .int .i64 t.epoch], .int .i64 s] w fun e w' => e = .returned (.tuple #[.bool b, .int .i64 E]) ∧ Below w.heap.size w w' := by
  have HS := Lib.hid hs
  clear hs
  cases h : okT t
  case false =>
    have hk : okV t s = false := by rw [okV, h]; rfl
    have e1 : b = false := by rw [← hv, covV, hk]; rfl
    have e2 : E = 1 := by rw [← hE, covE, hk]; rfl
    subst e1 e2
    have HO := Lib.hid h
    clear hk h hv hE
    go_enter Try.func9, Try.ntmps9
    go_wp2_with fail
    refine (pright_no t HO.out _).mono ?_
    rintro e w1 ⟨rfl, hb⟩
    have HB1 := Lib.hid (((Below.refl _ w).alloc (Nat.le_refl _) _).trans (hb.mono (by simp)))
    clear hb
    go_wp2
    go_ret2
    exact ⟨rfl, HB1.out.alloc HB1.out.size _⟩
  case true =>
    have hk := kinds_of h
    have HO := Lib.hid h
    clear h
    rcases hk with hk | hk | hk | hk
    · have he := cov_way HO.out (by omega) s
      have HV := Lib.hid (he.1.symm.trans hv)
      have HE := Lib.hid (he.2.symm.trans hE)
      have HK := Lib.hid hk
      clear hk he hv hE
      go_enter Try.func9, Try.ntmps9
      go_wp2_with fail
      refine (pright_1 t HK.out HO.out _).mono ?_
      rintro e w1 ⟨rfl, hb⟩
      have HB1 := Lib.hid (((Below.refl _ w).alloc (Nat.le_refl _) _).trans (hb.mono (by simp)))
      clear hb
      go_wp2_with fail
      refine (ponway_any t s b E HV.out HE.out _).mono ?_
      rintro e w2 ⟨rfl, hb⟩
      have HB2 := Lib.hid ((HB1.out.alloc HB1.out.size _).trans (hb.mono (HB1.out.alloc HB1.out.size _).size))
      clear hb
      go_wp2
      go_ret2
      exact ⟨rfl, HB2.out⟩
    · have he := cov_way HO.out (by omega) s
      have HV := Lib.hid (he.1.symm.trans hv)
      have HE := Lib.hid (he.2.symm.trans hE)
      have HK := Lib.hid hk
      clear hk he hv hE
      go_enter Try.func9, Try.ntmps9
      go_wp2_with fail
      refine (pright_2 t HK.out HO.out _).mono ?_
      rintro e w1 ⟨rfl, hb⟩
      have HB1 := Lib.hid (((Below.refl _ w).alloc (Nat.le_refl _) _).trans (hb.mono (by simp)))
      clear hb
      go_wp2_with fail
      refine (ponway_any t s b E HV.out HE.out _).mono ?_
      rintro e w2 ⟨rfl, hb⟩
      have HB2 := Lib.hid ((HB1.out.alloc HB1.out.size _).trans (hb.mono (HB1.out.alloc HB1.out.size _).size))
      clear hb
      go_wp2
      go_ret2
      exact ⟨rfl, HB2.out⟩
    · have he := cov_zones HO.out hk s
      have HV := Lib.hid (he.1.symm.trans hv)
      have HE := Lib.hid (he.2.symm.trans hE)
      have HK := Lib.hid hk
      clear hk he hv hE
      go_enter Try.func9, Try.ntmps9
      go_wp2_with fail
      refine (pright_3 t HK.out HO.out _).mono ?_
      rintro e w1 ⟨rfl, hb⟩
      have HB1 := Lib.hid (((Below.refl _ w).alloc (Nat.le_refl _) _).trans (hb.mono (by simp)))
      clear hb
      go_wp2_with fail
      refine (pinzones_any t s _ b E HS.out rfl HV.out HE.out _).mono ?_
      rintro e w2 ⟨rfl, hb⟩
      have HB2 := Lib.hid ((HB1.out.alloc HB1.out.size _).trans (hb.mono (HB1.out.alloc HB1.out.size _).size))
      clear hb
      go_wp2
      go_ret2
      exact ⟨rfl, HB2.out⟩
    · have he := cov_way HO.out (by omega) s
      have HV := Lib.hid (he.1.symm.trans hv)
      have HE := Lib.hid (he.2.symm.trans hE)
      have HK := Lib.hid hk
      clear hk he hv hE
      go_enter Try.func9, Try.ntmps9
      go_wp2_with fail
      refine (pright_4 t HK.out HO.out _).mono ?_
      rintro e w1 ⟨rfl, hb⟩
      have HB1 := Lib.hid (((Below.refl _ w).alloc (Nat.le_refl _) _).trans (hb.mono (by simp)))
      clear hb
      go_wp2_with fail
      refine (ponway_any t s b E HV.out HE.out _).mono ?_
      rintro e w2 ⟨rfl, hb⟩
      have HB2 := Lib.hid ((HB1.out.alloc HB1.out.size _).trans (hb.mono (HB1.out.alloc HB1.out.size _).size))
      clear hb
      go_wp2
      go_ret2
      exact ⟨rfl, HB2.out⟩
set_option maxRecDepth 20000 in
set_option maxHeartbeats 3200000 in
theorem pprice9_any (t : Tk) (v E : Int) (hv : priceV t = v) (hE : errT t = E) (w : World) : Calls Try.prog 15 #[.agg #[.int .i64 t.ser, .int .i64 t.kind, .int .i64 t.frm, .int .i64 t.till, .int .i64 t.cls, .int .i64 t.card, .int .i64 t.seat, .int .i64 t.day, .int .i64 t.days, .int .i64 t.uses, .int .i64 t.epoch]] w fun e w' => e = .returned (.tuple #[.int .i64 v, .int .i64 E]) ∧ Below w.heap.size w w' := by
  cases h : okT t
  case false =>
    have e1 : v = 0 := by rw [← hv, priceV, h]; rfl
    have e2 : E = 1 := by rw [← hE, errT, h]; rfl
    subst e1 e2
    have HO := Lib.hid h
    clear h hv hE
    go_enter Try.func15, Try.ntmps15
    go_wp2_with fail
    refine (pright_no t HO.out _).mono ?_
    rintro e w1 ⟨rfl, hb⟩
    have HB1 := Lib.hid (((Below.refl _ w).alloc (Nat.le_refl _) _).trans (hb.mono (by simp)))
    clear hb
    go_wp2
    go_ret2
    exact ⟨rfl, HB1.out.alloc HB1.out.size _⟩
  case true =>
    have hk := kinds_of h
    have e2 : E = 0 := by rw [← hE, errT, if_pos h]
    subst e2
    have HO := Lib.hid h
    have HV := Lib.hid hv
    clear h hE hv
    rcases hk with hk | hk | hk | hk
    · have HK := Lib.hid hk
      have HE1 := Lib.hid (show singleE t.frm t.till t.cls t.card = 0 by rw [singleE, if_pos (single_ok HO.out (by omega))])
      have HV1 := Lib.hid (show singleV t.frm t.till t.cls t.card = v by rw [← HV.out, priceV, if_pos HO.out, priceN, if_neg (by omega), if_neg (by omega), if_neg (by omega)]; rfl)
      clear hk
      go_enter Try.func15, Try.ntmps15
      go_wp2_with fail
      refine (pright_1 t HK.out HO.out _).mono ?_
      rintro e w1 ⟨rfl, hb⟩
      have HB1 := Lib.hid (((Below.refl _ w).alloc (Nat.le_refl _) _).trans (hb.mono (by simp)))
      clear hb
      go_wp2_with fail
      refine (poneprice_any t v 0 HV1.out HE1.out _).mono ?_
      rintro e w2 ⟨rfl, hb⟩
      have HB2 := Lib.hid ((HB1.out.alloc HB1.out.size _).trans (hb.mono (HB1.out.alloc HB1.out.size _).size))
      clear hb
      go_wp2
      go_ret2
      exact ⟨rfl, HB2.out⟩
    · have HK := Lib.hid hk
      clear hk
      go_enter Try.func15, Try.ntmps15
      go_wp2_with fail
      refine (pright_2 t HK.out HO.out _).mono ?_
      rintro e w1 ⟨rfl, hb⟩
      have HB1 := Lib.hid (((Below.refl _ w).alloc (Nat.le_refl _) _).trans (hb.mono (by simp)))
      clear hb
      go_wp2_with fail
      refine (preturn_any t v HO.out HK.out HV.out _).mono ?_
      rintro e w2 ⟨rfl, hb⟩
      have HB2 := Lib.hid ((HB1.out.alloc HB1.out.size _).trans (hb.mono (HB1.out.alloc HB1.out.size _).size))
      clear hb
      go_wp2
      go_ret2
      exact ⟨rfl, HB2.out⟩
    · have HK := Lib.hid hk
      clear hk
      go_enter Try.func15, Try.ntmps15
      go_wp2_with fail
      refine (pright_3 t HK.out HO.out _).mono ?_
      rintro e w1 ⟨rfl, hb⟩
      have HB1 := Lib.hid (((Below.refl _ w).alloc (Nat.le_refl _) _).trans (hb.mono (by simp)))
      clear hb
      go_wp2_with fail
      refine (pseason_any t v HO.out HK.out HV.out _).mono ?_
      rintro e w2 ⟨rfl, hb⟩
      have HB2 := Lib.hid ((HB1.out.alloc HB1.out.size _).trans (hb.mono (HB1.out.alloc HB1.out.size _).size))
      clear hb
      go_wp2
      go_ret2
      exact ⟨rfl, HB2.out⟩
    · have HK := Lib.hid hk
      clear hk
      go_enter Try.func15, Try.ntmps15
      go_wp2_with fail
      refine (pright_4 t HK.out HO.out _).mono ?_
      rintro e w1 ⟨rfl, hb⟩
      have HB1 := Lib.hid (((Below.refl _ w).alloc (Nat.le_refl _) _).trans (hb.mono (by simp)))
      clear hb
      go_wp2_with fail
      refine (pcarnet_any t v HO.out HK.out HV.out _).mono ?_
      rintro e w2 ⟨rfl, hb⟩
      have HB2 := Lib.hid ((HB1.out.alloc HB1.out.size _).trans (hb.mono (HB1.out.alloc HB1.out.size _).size))
      clear hb
      go_wp2
      go_ret2
      exact ⟨rfl, HB2.out⟩
end Go.Proofs.Ytmcdidbcfhgijaa
