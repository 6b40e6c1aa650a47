/-
  Contracts for the landed prices of each kind. Conditions: the ticket is right and of that kind.
-/
import Derived.Test.YtmcdidbcfhgijaaTicketPSmall
import Derived.Test.YtmcdidbcfhgijaaFarePSingle
namespace Go.Proofs.Ytmcdidbcfhgijaa
set_option linter.unusedVariables false
open Go.ChangeShapes Go.WideShapes Go.ChangeAt Go.RowKit


set_option maxHeartbeats 1600000 in
theorem poneprice_any (t : Tk) (v E : Int) (hv : singleV t.frm t.till t.cls t.card = v) (hE : singleE t.frm t.till t.cls t.card = E) (w : World) : Calls Try.prog 38 #[.agg #[.int .i64 t.ser, .int .i64 t.kind, .int .i64 t.frm, .int .i64 t.till, .int .i64 t.cls, .int .i64 t.card, .int .i64 t.seat, .int .i64 t.day, .int .i64 t.days, .int .i64 t.uses, .int .i64 t.epoch]] w fun e w' => e = .returned (.tuple #[.int .i64 v, .int .i64 E]) ∧ Below w.heap.size w w' := by
  have HV := Lib.hid hv
  have HE := Lib.hid hE
  clear hv hE
  obtain ⟨w0, hw0⟩ : ∃ w0, w0 = w.alloc (.cells #[.int .i64 t.ser, .int .i64 t.kind, .int .i64 t.frm, .int .i64 t.till, .int .i64 t.cls, .int .i64 t.card, .int .i64 t.seat, .int .i64 t.day, .int .i64 t.days, .int .i64 t.uses, .int .i64 t.epoch] 54) := ⟨_, rfl⟩
  have HX : Hid (WBox w0 w.heap.size t) := Lib.hid (by rw [hw0]; exact WBox.new w t)
  have HB : Hid (Below w.heap.size w w0) := Lib.hid (by rw [hw0]; exact below_lit w _ _)
  have HW := Lib.hid hw0
  clear hw0
  obtain ⟨c0, c1, c2, c3, c4, c5, c6, c7, c8, c9, c10⟩ := HX.out.cells
  go_enter Try.func38, Try.ntmps38
  go_wp2_with fail
  rw [← HW.out]
  refine (psingle_any _ _ _ _ _ _ HV.out HE.out _).mono ?_
  rintro e w1 ⟨rfl, hb⟩
  have HB1 := Lib.hid (HB.out.trans (hb.mono HB.out.size))
  clear hb
  go_wp2
  go_ret2
  exact ⟨rfl, HB1.out⟩
set_option maxHeartbeats 1600000 in
theorem pmany_any (t : Tk) (n p x v : Int) (hx : singleV t.frm t.till t.cls t.card = x) (hE : singleE t.frm t.till t.cls t.card = 0) (h0 : 0 ≤ n * x) (h1 : n * x ≤ 1000000) (hp : p = 5 ∨ p = 10) (hv : n * x - n * x / p = v) (w : World) : Calls Try.prog 47 #[.agg #[.int .i64 t.ser, .int .i64 t.kind, .int .i64 t.frm, .int .i64 t.till, .int .i64 t.cls, .int .i64 t.card, .int .i64 t.seat, .int .i64 t.day, .int .i64 t.days, .int .i64 t.uses, .int .i64 t.epoch], .int .i64 n, .int .i64 p] w fun e w' => e = .returned (.tuple #[.int .i64 v, .int .i64 0]) ∧ Below w.heap.size w w' := by
  have HX1 := Lib.hid hx
  have HE := Lib.hid hE
  have HV := Lib.hid hv
  obtain ⟨y, hy⟩ : ∃ y, y = n * x := ⟨_, rfl⟩
  rw [← hy] at h0 h1 hv
  have g1 : 0 ≤ y / p := by rcases hp with rfl | rfl <;> omega
  have g2 : y / p ≤ y := by rcases hp with rfl | rfl <;> omega
  have w1 : IntKind.i64.wrap (n * x) = y := by rw [← hy]; exact IntWalk.i64_in _ (by omega)
  have d1 : y.tdiv p = y / p := Int.tdiv_eq_ediv_of_nonneg h0
  have w2 : IntKind.i64.wrap (y / p) = y / p := IntWalk.i64_in _ (by omega)
  have w3 : IntKind.i64.wrap (y - y / p) = y - y / p := IntWalk.i64_in _ (by omega)
  have HV2 := Lib.hid hv
  have n0 : ¬ p = 0 := by omega
  clear hx hE hv hy h0 h1 g1 g2 hp HV
  obtain ⟨w0, hw0⟩ : ∃ w0, w0 = w.alloc (.cells #[.int .i64 t.ser, .int .i64 t.kind, .int .i64 t.frm, .int .i64 t.till, .int .i64 t.cls, .int .i64 t.card, .int .i64 t.seat, .int .i64 t.day, .int .i64 t.days, .int .i64 t.uses, .int .i64 t.epoch] 54) := ⟨_, rfl⟩
  have HX : Hid (WBox w0 w.heap.size t) := Lib.hid (by rw [hw0]; exact WBox.new w t)
  have HB : Hid (Below w.heap.size w w0) := Lib.hid (by rw [hw0]; exact below_lit w _ _)
  have HW := Lib.hid hw0
  clear hw0
  obtain ⟨c0, c1, c2, c3, c4, c5, c6, c7, c8, c9, c10⟩ := HX.out.cells
  go_enter Try.func47, Try.ntmps47
  go_wp2_with fail
  rw [← HW.out]
  refine (poneprice_any t x 0 HX1.out HE.out _).mono ?_
  rintro e w4 ⟨rfl, hb⟩
  have HB1 := Lib.hid (HB.out.trans (hb.mono HB.out.size))
  clear hb
  go_wp2
  go_ret2
  exact ⟨by rw [← HV2.out]; rfl, HB1.out⟩
set_option maxHeartbeats 1600000 in
theorem preturn_any (t : Tk) (v : Int) (hok : okT t = true) (hk : t.kind = 2) (hv : priceV t = v) (w : World) : Calls Try.prog 39 #[.agg #[.int .i64 t.ser, .int .i64 t.kind, .int .i64 t.frm, .int .i64 t.till, .int .i64 t.cls, .int .i64 t.card, .int .i64 t.seat, .int .i64 t.day, .int .i64 t.days, .int .i64 t.uses, .int .i64 t.epoch]] w fun e w' => e = .returned (.tuple #[.int .i64 v, .int .i64 0]) ∧ Below w.heap.size w w' := by
  have h3 : t.kind ≠ 3 := by omega
  have ho := one_in hok h3
  have hE : singleE t.frm t.till t.cls t.card = 0 := by rw [singleE, if_pos (single_ok hok h3)]
  have hvv : 2 * oneP t - 2 * oneP t / 10 = v := by rw [← hv, priceV, if_pos hok, priceN, if_neg h3, if_pos hk]
  have HE := Lib.hid hE
  have HV := Lib.hid hvv
  have HO := Lib.hid ho
  clear hok hk hv h3 ho hE hvv
  obtain ⟨w0, hw0⟩ : ∃ w0, w0 = w.alloc (.cells #[.int .i64 t.ser, .int .i64 t.kind, .int .i64 t.frm, .int .i64 t.till, .int .i64 t.cls, .int .i64 t.card, .int .i64 t.seat, .int .i64 t.day, .int .i64 t.days, .int .i64 t.uses, .int .i64 t.epoch] 54) := ⟨_, rfl⟩
  have HX : Hid (WBox w0 w.heap.size t) := Lib.hid (by rw [hw0]; exact WBox.new w t)
  have HB : Hid (Below w.heap.size w w0) := Lib.hid (by rw [hw0]; exact below_lit w _ _)
  have HW := Lib.hid hw0
  clear hw0
  obtain ⟨c0, c1, c2, c3, c4, c5, c6, c7, c8, c9, c10⟩ := HX.out.cells
  go_enter Try.func39, Try.ntmps39
  go_wp2_with fail
  rw [← HW.out]
  refine (pmany_any t 2 10 (oneP t) v rfl HE.out (by have := HO.out; omega) (by have := HO.out; omega) (.inr rfl) HV.out _).mono ?_
  rintro e w4 ⟨rfl, hb⟩
  have HB1 := Lib.hid (HB.out.trans (hb.mono HB.out.size))
  clear hb
  go_wp2
  go_ret2
  exact ⟨rfl, HB1.out⟩
set_option maxHeartbeats 1600000 in
theorem pcarnet_any (t : Tk) (v : Int) (hok : okT t = true) (hk : t.kind = 4) (hv : priceV t = v) (w : World) : Calls Try.prog 43 #[.agg #[.int .i64 t.ser, .int .i64 t.kind, .int .i64 t.frm, .int .i64 t.till, .int .i64 t.cls, .int .i64 t.card, .int .i64 t.seat, .int .i64 t.day, .int .i64 t.days, .int .i64 t.uses, .int .i64 t.epoch]] w fun e w' => e = .returned (.tuple #[.int .i64 v, .int .i64 0]) ∧ Below w.heap.size w w' := by
  have h3 : t.kind ≠ 3 := by omega
  have ho := one_in hok h3
  have hE : singleE t.frm t.till t.cls t.card = 0 := by rw [singleE, if_pos (single_ok hok h3)]
  have hvv : t.uses * oneP t - t.uses * oneP t / 5 = v := by rw [← hv, priceV, if_pos hok, priceN, if_neg h3, if_neg (by omega), if_pos hk]
  have hu := (uses_of hok).1 hk
  have hl : 0 ≤ t.uses * oneP t := Int.mul_nonneg (by omega) (by omega)
  have hm : t.uses * oneP t ≤ 20 * 1000 := Int.mul_le_mul hu.2 ho.2 (by omega) (by omega)
  have HE := Lib.hid hE
  have HV := Lib.hid hvv
  have HO := Lib.hid hl
  have HM := Lib.hid (show t.uses * oneP t ≤ 1000000 by omega)
  clear hok hk hv h3 ho hE hvv hu hl hm
  obtain ⟨w0, hw0⟩ : ∃ w0, w0 = w.alloc (.cells #[.int .i64 t.ser, .int .i64 t.kind, .int .i64 t.frm, .int .i64 t.till, .int .i64 t.cls, .int .i64 t.card, .int .i64 t.seat, .int .i64 t.day, .int .i64 t.days, .int .i64 t.uses, .int .i64 t.epoch] 54) := ⟨_, rfl⟩
  have HX : Hid (WBox w0 w.heap.size t) := Lib.hid (by rw [hw0]; exact WBox.new w t)
  have HB : Hid (Below w.heap.size w w0) := Lib.hid (by rw [hw0]; exact below_lit w _ _)
  have HW := Lib.hid hw0
  clear hw0
  obtain ⟨c0, c1, c2, c3, c4, c5, c6, c7, c8, c9, c10⟩ := HX.out.cells
  go_enter Try.func43, Try.ntmps43
  go_wp2_with fail
  rw [← HW.out]
  refine (pmany_any t t.uses 5 (oneP t) v rfl HE.out HO.out HM.out (.inl rfl) HV.out _).mono ?_
  rintro e w4 ⟨rfl, hb⟩
  have HB1 := Lib.hid (HB.out.trans (hb.mono HB.out.size))
  clear hb
  go_wp2
  go_ret2
  exact ⟨rfl, HB1.out⟩
set_option maxHeartbeats 1600000 in
theorem pseason_any (t : Tk) (v : Int) (hok : okT t = true) (hk : t.kind = 3) (hv : priceV t = v) (w : World) : Calls Try.prog 42 #[.agg #[.int .i64 t.ser, .int .i64 t.kind, .int .i64 t.frm, .int .i64 t.till, .int .i64 t.cls, .int .i64 t.card, .int .i64 t.seat, .int .i64 t.day, .int .i64 t.days, .int .i64 t.uses, .int .i64 t.epoch]] w fun e w' => e = .returned (.tuple #[.int .i64 v, .int .i64 0]) ∧ Below w.heap.size w w' := by
  have hz := zones_of hok hk
  have hn := (numsB_iff t).1 ((okT_iff t).1 hok).1
  have hd := dayP_in hok hk
  have ht := total_in hok hk
  have hvv : cutN (dayP t * t.days) t.card = v := by rw [← hv, priceV, if_pos hok, priceN, if_pos hk]
  have hc : okC (t.days * dayP t) t.card = true := (okC_iff _ _).2 ⟨by rw [Int.mul_comm]; omega, by rw [Int.mul_comm]; omega, by omega, by omega⟩
  have HCV := Lib.hid (show cutV (t.days * dayP t) t.card = v by rw [cutV, if_pos hc, Int.mul_comm]; exact hvv)
  have HCE := Lib.hid (show cutE (t.days * dayP t) t.card = 0 by rw [cutE, if_pos hc])
  have hbk : okB (t.till - t.frm + 1) = true := (okB_iff _).2 (by omega)
  obtain ⟨b, hb⟩ : ∃ b, b = basN (t.till - t.frm + 1) := ⟨_, rfl⟩
  have HBV := Lib.hid (show baseV (t.till - t.frm + 1) = b by rw [baseV, if_pos hbk]; exact hb.symm)
  have HBE := Lib.hid (show baseE (t.till - t.frm + 1) = 0 by rw [baseE, if_pos hbk])
  have hbr : 180 ≤ b ∧ b ≤ 655 := by rw [hb]; unfold basN; omega
  have w1 : IntKind.i64.wrap (t.till - t.frm) = t.till - t.frm := IntWalk.i64_in _ (by omega)
  have w2 : IntKind.i64.wrap (t.till - t.frm + 1) = t.till - t.frm + 1 := IntWalk.i64_in _ (by omega)
  have d2 : b.tdiv 2 = b / 2 := Int.tdiv_eq_ediv_of_nonneg (by omega)
  have w3 : IntKind.i64.wrap (b / 2) = b / 2 := IntWalk.i64_in _ (by omega)
  have w4 : IntKind.i64.wrap (b + b / 2) = b + b / 2 := IntWalk.i64_in _ (by omega)
  have hdp : dayP t = if t.cls = 1 then b + b / 2 else b := by rw [hb]; rfl
  have w5 : IntKind.i64.wrap (t.days * dayP t) = t.days * dayP t := IntWalk.i64_in _ (by rw [Int.mul_comm]; omega)
  rw [hdp] at w5 HCV HCE
  by_cases hcl : t.cls = 1
  all_goals
    first | rw [if_pos hcl] at w5 HCV HCE | rw [if_neg hcl] at w5 HCV HCE
    first | have q : (t.cls == 1) = true := by rw [beq_iff_eq]; exact hcl
          | have q : (t.cls == 1) = false := by rw [beq_eq_false_iff_ne]; exact hcl
    clear hok hk hv hz hn hd ht hvv hc hbk hb hbr hdp hcl
    obtain ⟨w0, hw0⟩ : ∃ w0, w0 = w.alloc (.cells #[.int .i64 t.ser, .int .i64 t.kind, .int .i64 t.frm, .int .i64 t.till, .int .i64 t.cls, .int .i64 t.card, .int .i64 t.seat, .int .i64 t.day, .int .i64 t.days, .int .i64 t.uses, .int .i64 t.epoch] 54) := ⟨_, rfl⟩
    have HX : Hid (WBox w0 w.heap.size t) := Lib.hid (by rw [hw0]; exact WBox.new w t)
    have HB : Hid (Below w.heap.size w w0) := Lib.hid (by rw [hw0]; exact below_lit w _ _)
    have HW := Lib.hid hw0
    clear hw0
    obtain ⟨c0, c1, c2, c3, c4, c5, c6, c7, c8, c9, c10⟩ := HX.out.cells
    go_enter Try.func42, Try.ntmps42
    go_wp2_with fail
    rw [← HW.out]
    refine (pbase_any _ _ _ HBV.out HBE.out _).mono ?_
    rintro e w6 ⟨rfl, hb⟩
    have HB1 := Lib.hid (HB.out.trans (hb.mono HB.out.size))
    obtain ⟨e0, e1, e2, e3, e4, e5, e6, e7, e8, e9, e10⟩ := (HX.out.next hb).cells
    clear hb
    go_wp2_with fail
    refine (pcut_any _ _ _ _ HCV.out HCE.out _).mono ?_
    rintro e w7 ⟨rfl, hb⟩
    have HB2 := Lib.hid (HB1.out.trans (hb.mono HB1.out.size))
    clear hb
    go_wp2
    go_ret2
    exact ⟨rfl, HB2.out⟩
end Go.Proofs.Ytmcdidbcfhgijaa
