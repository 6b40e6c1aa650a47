/-
  Law TicketCosts walked, out of the contracts: it answers true. Conditions: the numbers fit an int.
-/
import Derived.Test.YtmcdidbcfhgijaaSold
namespace Go.Proofs.Ytmcdidbcfhgijaa
set_option linter.unusedVariables false
open Go.ChangeShapes Go.WideShapes Go.ChangeAt Go.RowKit

theorem noCard_in {t : Tk} (jt : InT t) : InT (noCard t) := by
  obtain ⟨a0, a1, a2, a3, a4, a5, a6, a7, a8, a9, a10⟩ := jt
  exact ⟨a0, a1, a2, a3, a4, (show In64 0 by unfold In64; decide), a6, a7, a8, a9, a10⟩
set_option maxRecDepth 100000 in
set_option maxHeartbeats 3200000 in
theorem costs_any (C : TC) (t : Tk) (jt : InT t) (w : World) : Calls Try.prog 5 #[.agg #[.int .i64 t.ser, .int .i64 t.kind, .int .i64 t.frm, .int .i64 t.till, .int .i64 t.cls, .int .i64 t.card, .int .i64 t.seat, .int .i64 t.day, .int .i64 t.days, .int .i64 t.uses, .int .i64 t.epoch]] w fun e w' => e = .returned (.bool true) ∧ Below w.heap.size w w' := by
  have RT := Lib.hid jt
  have RX := Lib.hid (noCard_in jt)
  clear jt
  have HBL := Lib.hid (Below.refl w.heap.size w)
  cases h : okT t with
  | false =>
    have HV := Lib.hid (show priceV t = 0 by rw [priceV, h]; rfl)
    have HE := Lib.hid (show errT t = 1 by rw [errT, h]; rfl)
    have HO := Lib.hid h
    clear h
    go_enter Try.func5, Try.ntmps5
    go_wp2_with fail
    obtain ⟨w1, hw⟩ : ∃ w1, w1 = w.alloc (.cells #[.int .i64 t.ser, .int .i64 t.kind, .int .i64 t.frm, .int .i64 t.till, .int .i64 t.cls, .int .i64 t.card, .int .i64 t.seat, .int .i64 t.day, .int .i64 t.days, .int .i64 t.uses, .int .i64 t.epoch] 23) := ⟨_, rfl⟩
    rw [← hw]
    have hx : TBox w1 w.heap.size t := by rw [hw]; exact TBox.new w t
    have hb : Below w.heap.size w w1 := by rw [hw]; exact below_lit w _ _
    replace HBL := Lib.hid (HBL.out.trans (hb.mono HBL.out.size))
    have X1 := Lib.hid hx
    clear hx hb hw
    refine (C.price t 0 1 w1 RT.out HV.out HE.out).mono ?_
    rintro e w2 ⟨rfl, hb⟩
    replace X1 := Lib.hid (X1.out.next hb)
    replace HBL := Lib.hid (HBL.out.trans (hb.mono HBL.out.size))
    clear hb
    have c1_0 : w2.cell? ⟨_, 0, none⟩ = some (.int .i64 t.ser) := X1.out.cells.1
    have c1_1 : w2.cell? ⟨_, 1, none⟩ = some (.int .i64 t.kind) := X1.out.cells.2.1
    have c1_2 : w2.cell? ⟨_, 2, none⟩ = some (.int .i64 t.frm) := X1.out.cells.2.2.1
    have c1_3 : w2.cell? ⟨_, 3, none⟩ = some (.int .i64 t.till) := X1.out.cells.2.2.2.1
    have c1_4 : w2.cell? ⟨_, 4, none⟩ = some (.int .i64 t.cls) := X1.out.cells.2.2.2.2.1
    have c1_5 : w2.cell? ⟨_, 5, none⟩ = some (.int .i64 t.card) := X1.out.cells.2.2.2.2.2.1
    have c1_6 : w2.cell? ⟨_, 6, none⟩ = some (.int .i64 t.seat) := X1.out.cells.2.2.2.2.2.2.1
    have c1_7 : w2.cell? ⟨_, 7, none⟩ = some (.int .i64 t.day) := X1.out.cells.2.2.2.2.2.2.2.1
    have c1_8 : w2.cell? ⟨_, 8, none⟩ = some (.int .i64 t.days) := X1.out.cells.2.2.2.2.2.2.2.2.1
    have c1_9 : w2.cell? ⟨_, 9, none⟩ = some (.int .i64 t.uses) := X1.out.cells.2.2.2.2.2.2.2.2.2.1
    have c1_10 : w2.cell? ⟨_, 10, none⟩ = some (.int .i64 t.epoch) := X1.out.cells.2.2.2.2.2.2.2.2.2.2
    go_wp2_with fail
    refine (sold_any C w2).mono ?_
    rintro e w3 ⟨rfl, hb⟩
    replace X1 := Lib.hid (X1.out.next hb)
    replace HBL := Lib.hid (HBL.out.trans (hb.mono HBL.out.size))
    clear hb
    have c2_0 : w3.cell? ⟨_, 0, none⟩ = some (.int .i64 t.ser) := X1.out.cells.1
    have c2_1 : w3.cell? ⟨_, 1, none⟩ = some (.int .i64 t.kind) := X1.out.cells.2.1
    have c2_2 : w3.cell? ⟨_, 2, none⟩ = some (.int .i64 t.frm) := X1.out.cells.2.2.1
    have c2_3 : w3.cell? ⟨_, 3, none⟩ = some (.int .i64 t.till) := X1.out.cells.2.2.2.1
    have c2_4 : w3.cell? ⟨_, 4, none⟩ = some (.int .i64 t.cls) := X1.out.cells.2.2.2.2.1
    have c2_5 : w3.cell? ⟨_, 5, none⟩ = some (.int .i64 t.card) := X1.out.cells.2.2.2.2.2.1
    have c2_6 : w3.cell? ⟨_, 6, none⟩ = some (.int .i64 t.seat) := X1.out.cells.2.2.2.2.2.2.1
    have c2_7 : w3.cell? ⟨_, 7, none⟩ = some (.int .i64 t.day) := X1.out.cells.2.2.2.2.2.2.2.1
    have c2_8 : w3.cell? ⟨_, 8, none⟩ = some (.int .i64 t.days) := X1.out.cells.2.2.2.2.2.2.2.2.1
    have c2_9 : w3.cell? ⟨_, 9, none⟩ = some (.int .i64 t.uses) := X1.out.cells.2.2.2.2.2.2.2.2.2.1
    have c2_10 : w3.cell? ⟨_, 10, none⟩ = some (.int .i64 t.epoch) := X1.out.cells.2.2.2.2.2.2.2.2.2.2
    go_wp2_with fail
    refine (C.is t false w3 RT.out HO.out).mono ?_
    rintro e w4 ⟨rfl, hb⟩
    replace X1 := Lib.hid (X1.out.next hb)
    replace HBL := Lib.hid (HBL.out.trans (hb.mono HBL.out.size))
    clear hb
    go_wp2
    go_ret
    exact ⟨rfl, HBL.out⟩
  | true =>
    have HE := Lib.hid (show errT t = 0 by rw [errT, if_pos h])
    obtain ⟨f1, f2, f3, f4⟩ := costs_facts h
    obtain ⟨v, hv⟩ : ∃ v, priceV t = v := ⟨_, rfl⟩
    have HV := Lib.hid hv
    clear hv
    obtain ⟨m, hm⟩ : ∃ m, priceV (noCard t) = m := ⟨_, rfl⟩
    have HM := Lib.hid hm
    clear hm
    rw [HV.out, HM.out] at f2
    rw [HV.out] at f3
    have HF := Lib.hid f1
    have q1 : decide (m < v) = false := decide_eq_false (by omega)
    have q2 : decide (v < 1) = false := decide_eq_false (by omega)
    clear f1 f2 f3
    by_cases hk : t.kind = 3
    · have q3 : (t.kind == 3) = true := by rw [beq_iff_eq]; exact hk
      clear h hk f4
      go_enter Try.func5, Try.ntmps5
      go_wp2_with fail
      obtain ⟨w1, hw⟩ : ∃ w1, w1 = w.alloc (.cells #[.int .i64 t.ser, .int .i64 t.kind, .int .i64 t.frm, .int .i64 t.till, .int .i64 t.cls, .int .i64 t.card, .int .i64 t.seat, .int .i64 t.day, .int .i64 t.days, .int .i64 t.uses, .int .i64 t.epoch] 23) := ⟨_, rfl⟩
      rw [← hw]
      have hx : TBox w1 w.heap.size t := by rw [hw]; exact TBox.new w t
      have hb : Below w.heap.size w w1 := by rw [hw]; exact below_lit w _ _
      replace HBL := Lib.hid (HBL.out.trans (hb.mono HBL.out.size))
      have X1 := Lib.hid hx
      clear hx hb hw
      refine (C.price t v 0 w1 RT.out HV.out HE.out).mono ?_
      rintro e w2 ⟨rfl, hb⟩
      replace X1 := Lib.hid (X1.out.next hb)
      replace HBL := Lib.hid (HBL.out.trans (hb.mono HBL.out.size))
      clear hb
      have c1_0 : w2.cell? ⟨_, 0, none⟩ = some (.int .i64 t.ser) := X1.out.cells.1
      have c1_1 : w2.cell? ⟨_, 1, none⟩ = some (.int .i64 t.kind) := X1.out.cells.2.1
      have c1_2 : w2.cell? ⟨_, 2, none⟩ = some (.int .i64 t.frm) := X1.out.cells.2.2.1
      have c1_3 : w2.cell? ⟨_, 3, none⟩ = some (.int .i64 t.till) := X1.out.cells.2.2.2.1
      have c1_4 : w2.cell? ⟨_, 4, none⟩ = some (.int .i64 t.cls) := X1.out.cells.2.2.2.2.1
      have c1_5 : w2.cell? ⟨_, 5, none⟩ = some (.int .i64 t.card) := X1.out.cells.2.2.2.2.2.1
      have c1_6 : w2.cell? ⟨_, 6, none⟩ = some (.int .i64 t.seat) := X1.out.cells.2.2.2.2.2.2.1
      have c1_7 : w2.cell? ⟨_, 7, none⟩ = some (.int .i64 t.day) := X1.out.cells.2.2.2.2.2.2.2.1
      have c1_8 : w2.cell? ⟨_, 8, none⟩ = some (.int .i64 t.days) := X1.out.cells.2.2.2.2.2.2.2.2.1
      have c1_9 : w2.cell? ⟨_, 9, none⟩ = some (.int .i64 t.uses) := X1.out.cells.2.2.2.2.2.2.2.2.2.1
      have c1_10 : w2.cell? ⟨_, 10, none⟩ = some (.int .i64 t.epoch) := X1.out.cells.2.2.2.2.2.2.2.2.2.2
      go_wp2_with fail
      obtain ⟨w3, hw⟩ : ∃ w3, w3 = w2.alloc (.cells #[.int .i64 t.ser, .int .i64 t.kind, .int .i64 t.frm, .int .i64 t.till, .int .i64 t.cls, .int .i64 0, .int .i64 t.seat, .int .i64 t.day, .int .i64 t.days, .int .i64 t.uses, .int .i64 t.epoch] 23) := ⟨_, rfl⟩
      rw [← hw]
      have hx : TBox w3 w2.heap.size (noCard t) := by rw [hw]; exact TBox.new w2 (noCard t)
      have hb : Below w2.heap.size w2 w3 := by rw [hw]; exact below_lit w2 _ _
      replace X1 := Lib.hid (X1.out.next hb)
      replace HBL := Lib.hid (HBL.out.trans (hb.mono HBL.out.size))
      have X3 := Lib.hid hx
      clear hx hb hw
      refine (C.price (noCard t) m 0 w3 RX.out HM.out HF.out).mono ?_
      rintro e w4 ⟨rfl, hb⟩
      replace X1 := Lib.hid (X1.out.next hb)
      replace X3 := Lib.hid (X3.out.next hb)
      replace HBL := Lib.hid (HBL.out.trans (hb.mono HBL.out.size))
      clear hb
      have c2_0 : w4.cell? ⟨_, 0, none⟩ = some (.int .i64 t.ser) := X1.out.cells.1
      have c2_1 : w4.cell? ⟨_, 1, none⟩ = some (.int .i64 t.kind) := X1.out.cells.2.1
      have c2_2 : w4.cell? ⟨_, 2, none⟩ = some (.int .i64 t.frm) := X1.out.cells.2.2.1
      have c2_3 : w4.cell? ⟨_, 3, none⟩ = some (.int .i64 t.till) := X1.out.cells.2.2.2.1
      have c2_4 : w4.cell? ⟨_, 4, none⟩ = some (.int .i64 t.cls) := X1.out.cells.2.2.2.2.1
      have c2_5 : w4.cell? ⟨_, 5, none⟩ = some (.int .i64 t.card) := X1.out.cells.2.2.2.2.2.1
      have c2_6 : w4.cell? ⟨_, 6, none⟩ = some (.int .i64 t.seat) := X1.out.cells.2.2.2.2.2.2.1
      have c2_7 : w4.cell? ⟨_, 7, none⟩ = some (.int .i64 t.day) := X1.out.cells.2.2.2.2.2.2.2.1
      have c2_8 : w4.cell? ⟨_, 8, none⟩ = some (.int .i64 t.days) := X1.out.cells.2.2.2.2.2.2.2.2.1
      have c2_9 : w4.cell? ⟨_, 9, none⟩ = some (.int .i64 t.uses) := X1.out.cells.2.2.2.2.2.2.2.2.2.1
      have c2_10 : w4.cell? ⟨_, 10, none⟩ = some (.int .i64 t.epoch) := X1.out.cells.2.2.2.2.2.2.2.2.2.2
      go_wp2_with fail
      refine (sold_any C w4).mono ?_
      rintro e w5 ⟨rfl, hb⟩
      replace X1 := Lib.hid (X1.out.next hb)
      replace X3 := Lib.hid (X3.out.next hb)
      replace HBL := Lib.hid (HBL.out.trans (hb.mono HBL.out.size))
      clear hb
      go_wp2
      go_ret
      exact ⟨rfl, HBL.out⟩
    · have q3 : (t.kind == 3) = false := by rw [beq_eq_false_iff_ne]; exact hk
      obtain ⟨g1, g2, g3⟩ := f4 hk
      have ho := one_in h hk
      have hu := uses_of h
      have hn := (numsB_iff t).1 ((okT_iff t).1 h).1
      have u1 : 0 ≤ t.uses ∧ t.uses ≤ 20 := by
        by_cases h4 : t.kind = 4
        · have := hu.1 h4; omega
        · have := hu.2 h4
          have e : t.kind.tmod 3 = t.kind % 3 := Int.tmod_eq_emod_of_nonneg (by omega)
          omega
      obtain ⟨o, ho⟩ : ∃ o, oneP t = o := ⟨_, rfl⟩
      have HO := Lib.hid ho
      clear ho
      rw [HV.out, HO.out] at g2 g3
      rw [HO.out] at ho
      have m1 : 0 ≤ t.uses * o := Int.mul_nonneg u1.1 (by omega)
      have m2 : t.uses * o ≤ 20 * 1000 := Int.mul_le_mul u1.2 ho.2 (by omega) (by omega)
      have wu : IntKind.i64.wrap (t.uses * o) = t.uses * o := IntWalk.i64_in _ (by omega)
      have q4 : decide (v ≤ t.uses * o) = true := decide_eq_true g2
      have HG := Lib.hid g1
      have HO2 := Lib.hid (show singleV t.frm t.till t.cls t.card = o from HO.out)
      have R1 := Lib.hid RT.out
      cases h1 : (t.kind != 1)
      case true =>
        clear m1 m2 u1 hn hu ho g1 g2 g3 h hk f4
        go_enter Try.func5, Try.ntmps5
        go_wp2_with fail
        obtain ⟨w1, hw⟩ : ∃ w1, w1 = w.alloc (.cells #[.int .i64 t.ser, .int .i64 t.kind, .int .i64 t.frm, .int .i64 t.till, .int .i64 t.cls, .int .i64 t.card, .int .i64 t.seat, .int .i64 t.day, .int .i64 t.days, .int .i64 t.uses, .int .i64 t.epoch] 23) := ⟨_, rfl⟩
        rw [← hw]
        have hx : TBox w1 w.heap.size t := by rw [hw]; exact TBox.new w t
        have hb : Below w.heap.size w w1 := by rw [hw]; exact below_lit w _ _
        replace HBL := Lib.hid (HBL.out.trans (hb.mono HBL.out.size))
        have X1 := Lib.hid hx
        clear hx hb hw
        refine (C.price t v 0 w1 RT.out HV.out HE.out).mono ?_
        rintro e w2 ⟨rfl, hb⟩
        replace X1 := Lib.hid (X1.out.next hb)
        replace HBL := Lib.hid (HBL.out.trans (hb.mono HBL.out.size))
        clear hb
        have c1_0 : w2.cell? ⟨_, 0, none⟩ = some (.int .i64 t.ser) := X1.out.cells.1
        have c1_1 : w2.cell? ⟨_, 1, none⟩ = some (.int .i64 t.kind) := X1.out.cells.2.1
        have c1_2 : w2.cell? ⟨_, 2, none⟩ = some (.int .i64 t.frm) := X1.out.cells.2.2.1
        have c1_3 : w2.cell? ⟨_, 3, none⟩ = some (.int .i64 t.till) := X1.out.cells.2.2.2.1
        have c1_4 : w2.cell? ⟨_, 4, none⟩ = some (.int .i64 t.cls) := X1.out.cells.2.2.2.2.1
        have c1_5 : w2.cell? ⟨_, 5, none⟩ = some (.int .i64 t.card) := X1.out.cells.2.2.2.2.2.1
        have c1_6 : w2.cell? ⟨_, 6, none⟩ = some (.int .i64 t.seat) := X1.out.cells.2.2.2.2.2.2.1
        have c1_7 : w2.cell? ⟨_, 7, none⟩ = some (.int .i64 t.day) := X1.out.cells.2.2.2.2.2.2.2.1
        have c1_8 : w2.cell? ⟨_, 8, none⟩ = some (.int .i64 t.days) := X1.out.cells.2.2.2.2.2.2.2.2.1
        have c1_9 : w2.cell? ⟨_, 9, none⟩ = some (.int .i64 t.uses) := X1.out.cells.2.2.2.2.2.2.2.2.2.1
        have c1_10 : w2.cell? ⟨_, 10, none⟩ = some (.int .i64 t.epoch) := X1.out.cells.2.2.2.2.2.2.2.2.2.2
        go_wp2_with fail
        obtain ⟨w3, hw⟩ : ∃ w3, w3 = w2.alloc (.cells #[.int .i64 t.ser, .int .i64 t.kind, .int .i64 t.frm, .int .i64 t.till, .int .i64 t.cls, .int .i64 0, .int .i64 t.seat, .int .i64 t.day, .int .i64 t.days, .int .i64 t.uses, .int .i64 t.epoch] 23) := ⟨_, rfl⟩
        rw [← hw]
        have hx : TBox w3 w2.heap.size (noCard t) := by rw [hw]; exact TBox.new w2 (noCard t)
        have hb : Below w2.heap.size w2 w3 := by rw [hw]; exact below_lit w2 _ _
        replace X1 := Lib.hid (X1.out.next hb)
        replace HBL := Lib.hid (HBL.out.trans (hb.mono HBL.out.size))
        have X3 := Lib.hid hx
        clear hx hb hw
        refine (C.price (noCard t) m 0 w3 RX.out HM.out HF.out).mono ?_
        rintro e w4 ⟨rfl, hb⟩
        replace X1 := Lib.hid (X1.out.next hb)
        replace X3 := Lib.hid (X3.out.next hb)
        replace HBL := Lib.hid (HBL.out.trans (hb.mono HBL.out.size))
        clear hb
        have c2_0 : w4.cell? ⟨_, 0, none⟩ = some (.int .i64 t.ser) := X1.out.cells.1
        have c2_1 : w4.cell? ⟨_, 1, none⟩ = some (.int .i64 t.kind) := X1.out.cells.2.1
        have c2_2 : w4.cell? ⟨_, 2, none⟩ = some (.int .i64 t.frm) := X1.out.cells.2.2.1
        have c2_3 : w4.cell? ⟨_, 3, none⟩ = some (.int .i64 t.till) := X1.out.cells.2.2.2.1
        have c2_4 : w4.cell? ⟨_, 4, none⟩ = some (.int .i64 t.cls) := X1.out.cells.2.2.2.2.1
        have c2_5 : w4.cell? ⟨_, 5, none⟩ = some (.int .i64 t.card) := X1.out.cells.2.2.2.2.2.1
        have c2_6 : w4.cell? ⟨_, 6, none⟩ = some (.int .i64 t.seat) := X1.out.cells.2.2.2.2.2.2.1
        have c2_7 : w4.cell? ⟨_, 7, none⟩ = some (.int .i64 t.day) := X1.out.cells.2.2.2.2.2.2.2.1
        have c2_8 : w4.cell? ⟨_, 8, none⟩ = some (.int .i64 t.days) := X1.out.cells.2.2.2.2.2.2.2.2.1
        have c2_9 : w4.cell? ⟨_, 9, none⟩ = some (.int .i64 t.uses) := X1.out.cells.2.2.2.2.2.2.2.2.2.1
        have c2_10 : w4.cell? ⟨_, 10, none⟩ = some (.int .i64 t.epoch) := X1.out.cells.2.2.2.2.2.2.2.2.2.2
        go_wp2_with fail
        refine (C.single t.frm t.till t.cls t.card o 0 w4 RT.out.2.2.1 RT.out.2.2.2.1 RT.out.2.2.2.2.1 RT.out.2.2.2.2.2.1 HO2.out HG.out).mono ?_
        rintro e w5 ⟨rfl, hb⟩
        replace X1 := Lib.hid (X1.out.next hb)
        replace X3 := Lib.hid (X3.out.next hb)
        replace HBL := Lib.hid (HBL.out.trans (hb.mono HBL.out.size))
        clear hb
        have c3_0 : w5.cell? ⟨_, 0, none⟩ = some (.int .i64 t.ser) := X1.out.cells.1
        have c3_1 : w5.cell? ⟨_, 1, none⟩ = some (.int .i64 t.kind) := X1.out.cells.2.1
        have c3_2 : w5.cell? ⟨_, 2, none⟩ = some (.int .i64 t.frm) := X1.out.cells.2.2.1
        have c3_3 : w5.cell? ⟨_, 3, none⟩ = some (.int .i64 t.till) := X1.out.cells.2.2.2.1
        have c3_4 : w5.cell? ⟨_, 4, none⟩ = some (.int .i64 t.cls) := X1.out.cells.2.2.2.2.1
        have c3_5 : w5.cell? ⟨_, 5, none⟩ = some (.int .i64 t.card) := X1.out.cells.2.2.2.2.2.1
        have c3_6 : w5.cell? ⟨_, 6, none⟩ = some (.int .i64 t.seat) := X1.out.cells.2.2.2.2.2.2.1
        have c3_7 : w5.cell? ⟨_, 7, none⟩ = some (.int .i64 t.day) := X1.out.cells.2.2.2.2.2.2.2.1
        have c3_8 : w5.cell? ⟨_, 8, none⟩ = some (.int .i64 t.days) := X1.out.cells.2.2.2.2.2.2.2.2.1
        have c3_9 : w5.cell? ⟨_, 9, none⟩ = some (.int .i64 t.uses) := X1.out.cells.2.2.2.2.2.2.2.2.2.1
        have c3_10 : w5.cell? ⟨_, 10, none⟩ = some (.int .i64 t.epoch) := X1.out.cells.2.2.2.2.2.2.2.2.2.2
        go_wp2_with fail
        refine (sold_any C w5).mono ?_
        rintro e w6 ⟨rfl, hb⟩
        replace X1 := Lib.hid (X1.out.next hb)
        replace X3 := Lib.hid (X3.out.next hb)
        replace HBL := Lib.hid (HBL.out.trans (hb.mono HBL.out.size))
        clear hb
        have c4_0 : w6.cell? ⟨_, 0, none⟩ = some (.int .i64 t.ser) := X1.out.cells.1
        have c4_1 : w6.cell? ⟨_, 1, none⟩ = some (.int .i64 t.kind) := X1.out.cells.2.1
        have c4_2 : w6.cell? ⟨_, 2, none⟩ = some (.int .i64 t.frm) := X1.out.cells.2.2.1
        have c4_3 : w6.cell? ⟨_, 3, none⟩ = some (.int .i64 t.till) := X1.out.cells.2.2.2.1
        have c4_4 : w6.cell? ⟨_, 4, none⟩ = some (.int .i64 t.cls) := X1.out.cells.2.2.2.2.1
        have c4_5 : w6.cell? ⟨_, 5, none⟩ = some (.int .i64 t.card) := X1.out.cells.2.2.2.2.2.1
        have c4_6 : w6.cell? ⟨_, 6, none⟩ = some (.int .i64 t.seat) := X1.out.cells.2.2.2.2.2.2.1
        have c4_7 : w6.cell? ⟨_, 7, none⟩ = some (.int .i64 t.day) := X1.out.cells.2.2.2.2.2.2.2.1
        have c4_8 : w6.cell? ⟨_, 8, none⟩ = some (.int .i64 t.days) := X1.out.cells.2.2.2.2.2.2.2.2.1
        have c4_9 : w6.cell? ⟨_, 9, none⟩ = some (.int .i64 t.uses) := X1.out.cells.2.2.2.2.2.2.2.2.2.1
        have c4_10 : w6.cell? ⟨_, 10, none⟩ = some (.int .i64 t.epoch) := X1.out.cells.2.2.2.2.2.2.2.2.2.2
        go_wp2
        go_ret
        exact ⟨rfl, HBL.out⟩
      case false =>
        have hvo : v = o := g3 (by simpa using h1)
        have q5 : (v == o) = true := by rw [beq_iff_eq]; exact hvo
        clear m1 m2 u1 hn hu ho g1 g2 g3 h hk f4 hvo
        go_enter Try.func5, Try.ntmps5
        go_wp2_with fail
        obtain ⟨w1, hw⟩ : ∃ w1, w1 = w.alloc (.cells #[.int .i64 t.ser, .int .i64 t.kind, .int .i64 t.frm, .int .i64 t.till, .int .i64 t.cls, .int .i64 t.card, .int .i64 t.seat, .int .i64 t.day, .int .i64 t.days, .int .i64 t.uses, .int .i64 t.epoch] 23) := ⟨_, rfl⟩
        rw [← hw]
        have hx : TBox w1 w.heap.size t := by rw [hw]; exact TBox.new w t
        have hb : Below w.heap.size w w1 := by rw [hw]; exact below_lit w _ _
        replace HBL := Lib.hid (HBL.out.trans (hb.mono HBL.out.size))
        have X1 := Lib.hid hx
        clear hx hb hw
        refine (C.price t v 0 w1 RT.out HV.out HE.out).mono ?_
        rintro e w2 ⟨rfl, hb⟩
        replace X1 := Lib.hid (X1.out.next hb)
        replace HBL := Lib.hid (HBL.out.trans (hb.mono HBL.out.size))
        clear hb
        have c1_0 : w2.cell? ⟨_, 0, none⟩ = some (.int .i64 t.ser) := X1.out.cells.1
        have c1_1 : w2.cell? ⟨_, 1, none⟩ = some (.int .i64 t.kind) := X1.out.cells.2.1
        have c1_2 : w2.cell? ⟨_, 2, none⟩ = some (.int .i64 t.frm) := X1.out.cells.2.2.1
        have c1_3 : w2.cell? ⟨_, 3, none⟩ = some (.int .i64 t.till) := X1.out.cells.2.2.2.1
        have c1_4 : w2.cell? ⟨_, 4, none⟩ = some (.int .i64 t.cls) := X1.out.cells.2.2.2.2.1
        have c1_5 : w2.cell? ⟨_, 5, none⟩ = some (.int .i64 t.card) := X1.out.cells.2.2.2.2.2.1
        have c1_6 : w2.cell? ⟨_, 6, none⟩ = some (.int .i64 t.seat) := X1.out.cells.2.2.2.2.2.2.1
        have c1_7 : w2.cell? ⟨_, 7, none⟩ = some (.int .i64 t.day) := X1.out.cells.2.2.2.2.2.2.2.1
        have c1_8 : w2.cell? ⟨_, 8, none⟩ = some (.int .i64 t.days) := X1.out.cells.2.2.2.2.2.2.2.2.1
        have c1_9 : w2.cell? ⟨_, 9, none⟩ = some (.int .i64 t.uses) := X1.out.cells.2.2.2.2.2.2.2.2.2.1
        have c1_10 : w2.cell? ⟨_, 10, none⟩ = some (.int .i64 t.epoch) := X1.out.cells.2.2.2.2.2.2.2.2.2.2
        go_wp2_with fail
        obtain ⟨w3, hw⟩ : ∃ w3, w3 = w2.alloc (.cells #[.int .i64 t.ser, .int .i64 t.kind, .int .i64 t.frm, .int .i64 t.till, .int .i64 t.cls, .int .i64 0, .int .i64 t.seat, .int .i64 t.day, .int .i64 t.days, .int .i64 t.uses, .int .i64 t.epoch] 23) := ⟨_, rfl⟩
        rw [← hw]
        have hx : TBox w3 w2.heap.size (noCard t) := by rw [hw]; exact TBox.new w2 (noCard t)
        have hb : Below w2.heap.size w2 w3 := by rw [hw]; exact below_lit w2 _ _
        replace X1 := Lib.hid (X1.out.next hb)
        replace HBL := Lib.hid (HBL.out.trans (hb.mono HBL.out.size))
        have X3 := Lib.hid hx
        clear hx hb hw
        refine (C.price (noCard t) m 0 w3 RX.out HM.out HF.out).mono ?_
        rintro e w4 ⟨rfl, hb⟩
        replace X1 := Lib.hid (X1.out.next hb)
        replace X3 := Lib.hid (X3.out.next hb)
        replace HBL := Lib.hid (HBL.out.trans (hb.mono HBL.out.size))
        clear hb
        have c2_0 : w4.cell? ⟨_, 0, none⟩ = some (.int .i64 t.ser) := X1.out.cells.1
        have c2_1 : w4.cell? ⟨_, 1, none⟩ = some (.int .i64 t.kind) := X1.out.cells.2.1
        have c2_2 : w4.cell? ⟨_, 2, none⟩ = some (.int .i64 t.frm) := X1.out.cells.2.2.1
        have c2_3 : w4.cell? ⟨_, 3, none⟩ = some (.int .i64 t.till) := X1.out.cells.2.2.2.1
        have c2_4 : w4.cell? ⟨_, 4, none⟩ = some (.int .i64 t.cls) := X1.out.cells.2.2.2.2.1
        have c2_5 : w4.cell? ⟨_, 5, none⟩ = some (.int .i64 t.card) := X1.out.cells.2.2.2.2.2.1
        have c2_6 : w4.cell? ⟨_, 6, none⟩ = some (.int .i64 t.seat) := X1.out.cells.2.2.2.2.2.2.1
        have c2_7 : w4.cell? ⟨_, 7, none⟩ = some (.int .i64 t.day) := X1.out.cells.2.2.2.2.2.2.2.1
        have c2_8 : w4.cell? ⟨_, 8, none⟩ = some (.int .i64 t.days) := X1.out.cells.2.2.2.2.2.2.2.2.1
        have c2_9 : w4.cell? ⟨_, 9, none⟩ = some (.int .i64 t.uses) := X1.out.cells.2.2.2.2.2.2.2.2.2.1
        have c2_10 : w4.cell? ⟨_, 10, none⟩ = some (.int .i64 t.epoch) := X1.out.cells.2.2.2.2.2.2.2.2.2.2
        go_wp2_with fail
        refine (C.single t.frm t.till t.cls t.card o 0 w4 RT.out.2.2.1 RT.out.2.2.2.1 RT.out.2.2.2.2.1 RT.out.2.2.2.2.2.1 HO2.out HG.out).mono ?_
        rintro e w5 ⟨rfl, hb⟩
        replace X1 := Lib.hid (X1.out.next hb)
        replace X3 := Lib.hid (X3.out.next hb)
        replace HBL := Lib.hid (HBL.out.trans (hb.mono HBL.out.size))
        clear hb
        have c3_0 : w5.cell? ⟨_, 0, none⟩ = some (.int .i64 t.ser) := X1.out.cells.1
        have c3_1 : w5.cell? ⟨_, 1, none⟩ = some (.int .i64 t.kind) := X1.out.cells.2.1
        have c3_2 : w5.cell? ⟨_, 2, none⟩ = some (.int .i64 t.frm) := X1.out.cells.2.2.1
        have c3_3 : w5.cell? ⟨_, 3, none⟩ = some (.int .i64 t.till) := X1.out.cells.2.2.2.1
        have c3_4 : w5.cell? ⟨_, 4, none⟩ = some (.int .i64 t.cls) := X1.out.cells.2.2.2.2.1
        have c3_5 : w5.cell? ⟨_, 5, none⟩ = some (.int .i64 t.card) := X1.out.cells.2.2.2.2.2.1
        have c3_6 : w5.cell? ⟨_, 6, none⟩ = some (.int .i64 t.seat) := X1.out.cells.2.2.2.2.2.2.1
        have c3_7 : w5.cell? ⟨_, 7, none⟩ = some (.int .i64 t.day) := X1.out.cells.2.2.2.2.2.2.2.1
        have c3_8 : w5.cell? ⟨_, 8, none⟩ = some (.int .i64 t.days) := X1.out.cells.2.2.2.2.2.2.2.2.1
        have c3_9 : w5.cell? ⟨_, 9, none⟩ = some (.int .i64 t.uses) := X1.out.cells.2.2.2.2.2.2.2.2.2.1
        have c3_10 : w5.cell? ⟨_, 10, none⟩ = some (.int .i64 t.epoch) := X1.out.cells.2.2.2.2.2.2.2.2.2.2
        go_wp2_with fail
        refine (sold_any C w5).mono ?_
        rintro e w6 ⟨rfl, hb⟩
        replace X1 := Lib.hid (X1.out.next hb)
        replace X3 := Lib.hid (X3.out.next hb)
        replace HBL := Lib.hid (HBL.out.trans (hb.mono HBL.out.size))
        clear hb
        have c4_0 : w6.cell? ⟨_, 0, none⟩ = some (.int .i64 t.ser) := X1.out.cells.1
        have c4_1 : w6.cell? ⟨_, 1, none⟩ = some (.int .i64 t.kind) := X1.out.cells.2.1
        have c4_2 : w6.cell? ⟨_, 2, none⟩ = some (.int .i64 t.frm) := X1.out.cells.2.2.1
        have c4_3 : w6.cell? ⟨_, 3, none⟩ = some (.int .i64 t.till) := X1.out.cells.2.2.2.1
        have c4_4 : w6.cell? ⟨_, 4, none⟩ = some (.int .i64 t.cls) := X1.out.cells.2.2.2.2.1
        have c4_5 : w6.cell? ⟨_, 5, none⟩ = some (.int .i64 t.card) := X1.out.cells.2.2.2.2.2.1
        have c4_6 : w6.cell? ⟨_, 6, none⟩ = some (.int .i64 t.seat) := X1.out.cells.2.2.2.2.2.2.1
        have c4_7 : w6.cell? ⟨_, 7, none⟩ = some (.int .i64 t.day) := X1.out.cells.2.2.2.2.2.2.2.1
        have c4_8 : w6.cell? ⟨_, 8, none⟩ = some (.int .i64 t.days) := X1.out.cells.2.2.2.2.2.2.2.2.1
        have c4_9 : w6.cell? ⟨_, 9, none⟩ = some (.int .i64 t.uses) := X1.out.cells.2.2.2.2.2.2.2.2.2.1
        have c4_10 : w6.cell? ⟨_, 10, none⟩ = some (.int .i64 t.epoch) := X1.out.cells.2.2.2.2.2.2.2.2.2.2
        go_wp2
        go_ret
        exact ⟨rfl, HBL.out⟩
end Go.Proofs.Ytmcdidbcfhgijaa
