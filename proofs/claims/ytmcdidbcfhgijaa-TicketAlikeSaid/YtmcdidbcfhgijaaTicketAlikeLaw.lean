/-
  Law TicketAlike walked, out of the contracts: it answers true. Conditions: the numbers fit an int.
-/
import Derived.Test.YtmcdidbcfhgijaaSold
namespace Go.Proofs.Ytmcdidbcfhgijaa
set_option linter.unusedVariables false
open Go.ChangeShapes Go.WideShapes Go.ChangeAt Go.RowKit

theorem likeT_in {t u : Tk} (jt : InT t) (ju : InT u) : InT (likeT t u) := by
  obtain ⟨a0, a1, a2, a3, a4, a5, a6, a7, a8, a9, a10⟩ := jt
  obtain ⟨b0, b1, b2, b3, b4, b5, b6, b7, b8, b9, b10⟩ := ju
  exact ⟨b0, a1, a2, a3, a4, a5, b6, b7, a8, a9, b10⟩
set_option maxRecDepth 100000 in
set_option maxHeartbeats 3200000 in
theorem alike_any (C : TC) (t u : Tk) (jt : InT t) (ju : InT u) (w : World) : Calls Try.prog 6 #[.agg #[.int .i64 t.ser, .int .i64 t.kind, .int .i64 t.frm, .int .i64 t.till, .int .i64 t.cls, .int .i64 t.card, .int .i64 t.seat, .int .i64 t.day, .int .i64 t.days, .int .i64 t.uses, .int .i64 t.epoch], .agg #[.int .i64 u.ser, .int .i64 u.kind, .int .i64 u.frm, .int .i64 u.till, .int .i64 u.cls, .int .i64 u.card, .int .i64 u.seat, .int .i64 u.day, .int .i64 u.days, .int .i64 u.uses, .int .i64 u.epoch]] w fun e w' => e = .returned (.bool true) ∧ Below w.heap.size w w' := by
  have RT := Lib.hid jt
  have RX := Lib.hid (likeT_in jt ju)
  clear jt ju
  have HBL := Lib.hid (Below.refl w.heap.size w)
  cases h : okT t with
  | false =>
    have HV := Lib.hid (show priceV t = 0 by rw [priceV, h]; rfl)
    have HE := Lib.hid (show errT t = 1 by rw [errT, h]; rfl)
    obtain ⟨x, hx⟩ : ∃ x, priceV (likeT t u) = x := ⟨_, rfl⟩
    have HX := Lib.hid hx
    clear hx
    obtain ⟨F, hF⟩ : ∃ F, errT (likeT t u) = F := ⟨_, rfl⟩
    have HF := Lib.hid hF
    clear hF
    clear h
    go_enter Try.func6, Try.ntmps6
    go_wp2_with fail
    obtain ⟨w1, hw⟩ : ∃ w1, w1 = w.alloc (.cells #[.int .i64 t.ser, .int .i64 t.kind, .int .i64 t.frm, .int .i64 t.till, .int .i64 t.cls, .int .i64 t.card, .int .i64 t.seat, .int .i64 t.day, .int .i64 t.days, .int .i64 t.uses, .int .i64 t.epoch] 23) := ⟨_, rfl⟩
    rw [← hw]
    have hx : TBox w1 w.heap.size t := by rw [hw]; exact TBox.new w t
    have hb : Below w.heap.size w w1 := by rw [hw]; exact below_lit w _ _
    replace HBL := Lib.hid (HBL.out.trans (hb.mono HBL.out.size))
    have X1 := Lib.hid hx
    have HW0 := Lib.hid hw
    clear hx hb hw
    have HZ := Lib.hid (show w1.heap.size = w.heap.size + 1 by rw [HW0.out]; exact Array.size_push ..)
    clear HW0
    obtain ⟨w2, hw⟩ : ∃ w2, w2 = w1.alloc (.cells #[.int .i64 u.ser, .int .i64 u.kind, .int .i64 u.frm, .int .i64 u.till, .int .i64 u.cls, .int .i64 u.card, .int .i64 u.seat, .int .i64 u.day, .int .i64 u.days, .int .i64 u.uses, .int .i64 u.epoch] 23) := ⟨_, rfl⟩
    rw [← hw]
    have hx : TBox w2 w1.heap.size u := by rw [hw]; exact TBox.new w1 u
    have hb : Below w1.heap.size w1 w2 := by rw [hw]; exact below_lit w1 _ _
    replace X1 := Lib.hid (X1.out.next hb)
    replace HBL := Lib.hid (HBL.out.trans (hb.mono HBL.out.size))
    have X2 := Lib.hid hx
    clear hx hb hw
    replace X2 := Lib.hid (show TBox w2 (w.heap.size + 1) u by rw [← HZ.out]; exact X2.out)
    refine (C.price t 0 1 w2 RT.out HV.out HE.out).mono ?_
    rintro e w3 ⟨rfl, hb⟩
    replace X1 := Lib.hid (X1.out.next hb)
    replace X2 := Lib.hid (X2.out.next hb)
    replace HBL := Lib.hid (HBL.out.trans (hb.mono HBL.out.size))
    clear hb
    have c1_0 : w3.cell? ⟨_, 0, none⟩ = some (.int .i64 t.ser) := X1.out.cells.1
    have c1_1 : w3.cell? ⟨_, 1, none⟩ = some (.int .i64 t.kind) := X1.out.cells.2.1
    have c1_2 : w3.cell? ⟨_, 2, none⟩ = some (.int .i64 t.frm) := X1.out.cells.2.2.1
    have c1_3 : w3.cell? ⟨_, 3, none⟩ = some (.int .i64 t.till) := X1.out.cells.2.2.2.1
    have c1_4 : w3.cell? ⟨_, 4, none⟩ = some (.int .i64 t.cls) := X1.out.cells.2.2.2.2.1
    have c1_5 : w3.cell? ⟨_, 5, none⟩ = some (.int .i64 t.card) := X1.out.cells.2.2.2.2.2.1
    have c1_6 : w3.cell? ⟨_, 6, none⟩ = some (.int .i64 t.seat) := X1.out.cells.2.2.2.2.2.2.1
    have c1_7 : w3.cell? ⟨_, 7, none⟩ = some (.int .i64 t.day) := X1.out.cells.2.2.2.2.2.2.2.1
    have c1_8 : w3.cell? ⟨_, 8, none⟩ = some (.int .i64 t.days) := X1.out.cells.2.2.2.2.2.2.2.2.1
    have c1_9 : w3.cell? ⟨_, 9, none⟩ = some (.int .i64 t.uses) := X1.out.cells.2.2.2.2.2.2.2.2.2.1
    have c1_10 : w3.cell? ⟨_, 10, none⟩ = some (.int .i64 t.epoch) := X1.out.cells.2.2.2.2.2.2.2.2.2.2
    have c2_0 : w3.cell? ⟨_, 0, none⟩ = some (.int .i64 u.ser) := X2.out.cells.1
    have c2_1 : w3.cell? ⟨_, 1, none⟩ = some (.int .i64 u.kind) := X2.out.cells.2.1
    have c2_2 : w3.cell? ⟨_, 2, none⟩ = some (.int .i64 u.frm) := X2.out.cells.2.2.1
    have c2_3 : w3.cell? ⟨_, 3, none⟩ = some (.int .i64 u.till) := X2.out.cells.2.2.2.1
    have c2_4 : w3.cell? ⟨_, 4, none⟩ = some (.int .i64 u.cls) := X2.out.cells.2.2.2.2.1
    have c2_5 : w3.cell? ⟨_, 5, none⟩ = some (.int .i64 u.card) := X2.out.cells.2.2.2.2.2.1
    have c2_6 : w3.cell? ⟨_, 6, none⟩ = some (.int .i64 u.seat) := X2.out.cells.2.2.2.2.2.2.1
    have c2_7 : w3.cell? ⟨_, 7, none⟩ = some (.int .i64 u.day) := X2.out.cells.2.2.2.2.2.2.2.1
    have c2_8 : w3.cell? ⟨_, 8, none⟩ = some (.int .i64 u.days) := X2.out.cells.2.2.2.2.2.2.2.2.1
    have c2_9 : w3.cell? ⟨_, 9, none⟩ = some (.int .i64 u.uses) := X2.out.cells.2.2.2.2.2.2.2.2.2.1
    have c2_10 : w3.cell? ⟨_, 10, none⟩ = some (.int .i64 u.epoch) := X2.out.cells.2.2.2.2.2.2.2.2.2.2
    have hlt : w.heap.size + 1 < w3.heap.size := X2.out.lt
    go_wp2_with fail
    obtain ⟨w4, hw⟩ : ∃ w4, w4 = w3.alloc (.cells #[.int .i64 u.ser, .int .i64 t.kind, .int .i64 t.frm, .int .i64 t.till, .int .i64 t.cls, .int .i64 t.card, .int .i64 u.seat, .int .i64 u.day, .int .i64 t.days, .int .i64 t.uses, .int .i64 u.epoch] 23) := ⟨_, rfl⟩
    rw [← hw]
    have hx : TBox w4 w3.heap.size (likeT t u) := by rw [hw]; exact TBox.new w3 (likeT t u)
    have hb : Below w3.heap.size w3 w4 := by rw [hw]; exact below_lit w3 _ _
    replace X1 := Lib.hid (X1.out.next hb)
    replace X2 := Lib.hid (X2.out.next hb)
    replace HBL := Lib.hid (HBL.out.trans (hb.mono HBL.out.size))
    have X3 := Lib.hid hx
    clear hx hb hw
    clear hlt
    refine (C.price (likeT t u) x F w4 RX.out HX.out HF.out).mono ?_
    rintro e w5 ⟨rfl, hb⟩
    replace X1 := Lib.hid (X1.out.next hb)
    replace X2 := Lib.hid (X2.out.next hb)
    replace X3 := Lib.hid (X3.out.next hb)
    replace HBL := Lib.hid (HBL.out.trans (hb.mono HBL.out.size))
    clear hb
    go_wp2_with fail
    refine (sold_any C w5).mono ?_
    rintro e w6 ⟨rfl, hb⟩
    replace X1 := Lib.hid (X1.out.next hb)
    replace X2 := Lib.hid (X2.out.next hb)
    replace X3 := Lib.hid (X3.out.next hb)
    replace HBL := Lib.hid (HBL.out.trans (hb.mono HBL.out.size))
    clear hb
    go_wp2
    go_ret
    exact ⟨rfl, HBL.out⟩
  | true =>
    have HE := Lib.hid (show errT t = 0 by rw [errT, if_pos h])
    obtain ⟨v, hv⟩ : ∃ v, priceV t = v := ⟨_, rfl⟩
    have HV := Lib.hid hv
    clear hv
    cases h2 : okT (likeT t u) with
    | false =>
      have HX := Lib.hid (show priceV (likeT t u) = 0 by rw [priceV, h2]; rfl)
      have HF := Lib.hid (show errT (likeT t u) = 1 by rw [errT, h2]; rfl)
      clear h h2
      go_enter Try.func6, Try.ntmps6
      go_wp2_with fail
      obtain ⟨w1, hw⟩ : ∃ w1, w1 = w.alloc (.cells #[.int .i64 t.ser, .int .i64 t.kind, .int .i64 t.frm, .int .i64 t.till, .int .i64 t.cls, .int .i64 t.card, .int .i64 t.seat, .int .i64 t.day, .int .i64 t.days, .int .i64 t.uses, .int .i64 t.epoch] 23) := ⟨_, rfl⟩
      rw [← hw]
      have hx : TBox w1 w.heap.size t := by rw [hw]; exact TBox.new w t
      have hb : Below w.heap.size w w1 := by rw [hw]; exact below_lit w _ _
      replace HBL := Lib.hid (HBL.out.trans (hb.mono HBL.out.size))
      have X1 := Lib.hid hx
      have HW0 := Lib.hid hw
      clear hx hb hw
      have HZ := Lib.hid (show w1.heap.size = w.heap.size + 1 by rw [HW0.out]; exact Array.size_push ..)
      clear HW0
      obtain ⟨w2, hw⟩ : ∃ w2, w2 = w1.alloc (.cells #[.int .i64 u.ser, .int .i64 u.kind, .int .i64 u.frm, .int .i64 u.till, .int .i64 u.cls, .int .i64 u.card, .int .i64 u.seat, .int .i64 u.day, .int .i64 u.days, .int .i64 u.uses, .int .i64 u.epoch] 23) := ⟨_, rfl⟩
      rw [← hw]
      have hx : TBox w2 w1.heap.size u := by rw [hw]; exact TBox.new w1 u
      have hb : Below w1.heap.size w1 w2 := by rw [hw]; exact below_lit w1 _ _
      replace X1 := Lib.hid (X1.out.next hb)
      replace HBL := Lib.hid (HBL.out.trans (hb.mono HBL.out.size))
      have X2 := Lib.hid hx
      clear hx hb hw
      replace X2 := Lib.hid (show TBox w2 (w.heap.size + 1) u by rw [← HZ.out]; exact X2.out)
      refine (C.price t v 0 w2 RT.out HV.out HE.out).mono ?_
      rintro e w3 ⟨rfl, hb⟩
      replace X1 := Lib.hid (X1.out.next hb)
      replace X2 := Lib.hid (X2.out.next hb)
      replace HBL := Lib.hid (HBL.out.trans (hb.mono HBL.out.size))
      clear hb
      have c1_0 : w3.cell? ⟨_, 0, none⟩ = some (.int .i64 t.ser) := X1.out.cells.1
      have c1_1 : w3.cell? ⟨_, 1, none⟩ = some (.int .i64 t.kind) := X1.out.cells.2.1
      have c1_2 : w3.cell? ⟨_, 2, none⟩ = some (.int .i64 t.frm) := X1.out.cells.2.2.1
      have c1_3 : w3.cell? ⟨_, 3, none⟩ = some (.int .i64 t.till) := X1.out.cells.2.2.2.1
      have c1_4 : w3.cell? ⟨_, 4, none⟩ = some (.int .i64 t.cls) := X1.out.cells.2.2.2.2.1
      have c1_5 : w3.cell? ⟨_, 5, none⟩ = some (.int .i64 t.card) := X1.out.cells.2.2.2.2.2.1
      have c1_6 : w3.cell? ⟨_, 6, none⟩ = some (.int .i64 t.seat) := X1.out.cells.2.2.2.2.2.2.1
      have c1_7 : w3.cell? ⟨_, 7, none⟩ = some (.int .i64 t.day) := X1.out.cells.2.2.2.2.2.2.2.1
      have c1_8 : w3.cell? ⟨_, 8, none⟩ = some (.int .i64 t.days) := X1.out.cells.2.2.2.2.2.2.2.2.1
      have c1_9 : w3.cell? ⟨_, 9, none⟩ = some (.int .i64 t.uses) := X1.out.cells.2.2.2.2.2.2.2.2.2.1
      have c1_10 : w3.cell? ⟨_, 10, none⟩ = some (.int .i64 t.epoch) := X1.out.cells.2.2.2.2.2.2.2.2.2.2
      have c2_0 : w3.cell? ⟨_, 0, none⟩ = some (.int .i64 u.ser) := X2.out.cells.1
      have c2_1 : w3.cell? ⟨_, 1, none⟩ = some (.int .i64 u.kind) := X2.out.cells.2.1
      have c2_2 : w3.cell? ⟨_, 2, none⟩ = some (.int .i64 u.frm) := X2.out.cells.2.2.1
      have c2_3 : w3.cell? ⟨_, 3, none⟩ = some (.int .i64 u.till) := X2.out.cells.2.2.2.1
      have c2_4 : w3.cell? ⟨_, 4, none⟩ = some (.int .i64 u.cls) := X2.out.cells.2.2.2.2.1
      have c2_5 : w3.cell? ⟨_, 5, none⟩ = some (.int .i64 u.card) := X2.out.cells.2.2.2.2.2.1
      have c2_6 : w3.cell? ⟨_, 6, none⟩ = some (.int .i64 u.seat) := X2.out.cells.2.2.2.2.2.2.1
      have c2_7 : w3.cell? ⟨_, 7, none⟩ = some (.int .i64 u.day) := X2.out.cells.2.2.2.2.2.2.2.1
      have c2_8 : w3.cell? ⟨_, 8, none⟩ = some (.int .i64 u.days) := X2.out.cells.2.2.2.2.2.2.2.2.1
      have c2_9 : w3.cell? ⟨_, 9, none⟩ = some (.int .i64 u.uses) := X2.out.cells.2.2.2.2.2.2.2.2.2.1
      have c2_10 : w3.cell? ⟨_, 10, none⟩ = some (.int .i64 u.epoch) := X2.out.cells.2.2.2.2.2.2.2.2.2.2
      have hlt : w.heap.size + 1 < w3.heap.size := X2.out.lt
      go_wp2_with fail
      obtain ⟨w4, hw⟩ : ∃ w4, w4 = w3.alloc (.cells #[.int .i64 u.ser, .int .i64 t.kind, .int .i64 t.frm, .int .i64 t.till, .int .i64 t.cls, .int .i64 t.card, .int .i64 u.seat, .int .i64 u.day, .int .i64 t.days, .int .i64 t.uses, .int .i64 u.epoch] 23) := ⟨_, rfl⟩
      rw [← hw]
      have hx : TBox w4 w3.heap.size (likeT t u) := by rw [hw]; exact TBox.new w3 (likeT t u)
      have hb : Below w3.heap.size w3 w4 := by rw [hw]; exact below_lit w3 _ _
      replace X1 := Lib.hid (X1.out.next hb)
      replace X2 := Lib.hid (X2.out.next hb)
      replace HBL := Lib.hid (HBL.out.trans (hb.mono HBL.out.size))
      have X3 := Lib.hid hx
      clear hx hb hw
      clear hlt
      refine (C.price (likeT t u) 0 1 w4 RX.out HX.out HF.out).mono ?_
      rintro e w5 ⟨rfl, hb⟩
      replace X1 := Lib.hid (X1.out.next hb)
      replace X2 := Lib.hid (X2.out.next hb)
      replace X3 := Lib.hid (X3.out.next hb)
      replace HBL := Lib.hid (HBL.out.trans (hb.mono HBL.out.size))
      clear hb
      go_wp2_with fail
      refine (sold_any C w5).mono ?_
      rintro e w6 ⟨rfl, hb⟩
      replace X1 := Lib.hid (X1.out.next hb)
      replace X2 := Lib.hid (X2.out.next hb)
      replace X3 := Lib.hid (X3.out.next hb)
      replace HBL := Lib.hid (HBL.out.trans (hb.mono HBL.out.size))
      clear hb
      go_wp2
      go_ret
      exact ⟨rfl, HBL.out⟩
    | true =>
      have HX := Lib.hid ((alike_facts h h2).trans HV.out)
      have HF := Lib.hid (show errT (likeT t u) = 0 by rw [errT, if_pos h2])
      clear h h2
      go_enter Try.func6, Try.ntmps6
      go_wp2_with fail
      obtain ⟨w1, hw⟩ : ∃ w1, w1 = w.alloc (.cells #[.int .i64 t.ser, .int .i64 t.kind, .int .i64 t.frm, .int .i64 t.till, .int .i64 t.cls, .int .i64 t.card, .int .i64 t.seat, .int .i64 t.day, .int .i64 t.days, .int .i64 t.uses, .int .i64 t.epoch] 23) := ⟨_, rfl⟩
      rw [← hw]
      have hx : TBox w1 w.heap.size t := by rw [hw]; exact TBox.new w t
      have hb : Below w.heap.size w w1 := by rw [hw]; exact below_lit w _ _
      replace HBL := Lib.hid (HBL.out.trans (hb.mono HBL.out.size))
      have X1 := Lib.hid hx
      have HW0 := Lib.hid hw
      clear hx hb hw
      have HZ := Lib.hid (show w1.heap.size = w.heap.size + 1 by rw [HW0.out]; exact Array.size_push ..)
      clear HW0
      obtain ⟨w2, hw⟩ : ∃ w2, w2 = w1.alloc (.cells #[.int .i64 u.ser, .int .i64 u.kind, .int .i64 u.frm, .int .i64 u.till, .int .i64 u.cls, .int .i64 u.card, .int .i64 u.seat, .int .i64 u.day, .int .i64 u.days, .int .i64 u.uses, .int .i64 u.epoch] 23) := ⟨_, rfl⟩
      rw [← hw]
      have hx : TBox w2 w1.heap.size u := by rw [hw]; exact TBox.new w1 u
      have hb : Below w1.heap.size w1 w2 := by rw [hw]; exact below_lit w1 _ _
      replace X1 := Lib.hid (X1.out.next hb)
      replace HBL := Lib.hid (HBL.out.trans (hb.mono HBL.out.size))
      have X2 := Lib.hid hx
      clear hx hb hw
      replace X2 := Lib.hid (show TBox w2 (w.heap.size + 1) u by rw [← HZ.out]; exact X2.out)
      refine (C.price t v 0 w2 RT.out HV.out HE.out).mono ?_
      rintro e w3 ⟨rfl, hb⟩
      replace X1 := Lib.hid (X1.out.next hb)
      replace X2 := Lib.hid (X2.out.next hb)
      replace HBL := Lib.hid (HBL.out.trans (hb.mono HBL.out.size))
      clear hb
      have c1_0 : w3.cell? ⟨_, 0, none⟩ = some (.int .i64 t.ser) := X1.out.cells.1
      have c1_1 : w3.cell? ⟨_, 1, none⟩ = some (.int .i64 t.kind) := X1.out.cells.2.1
      have c1_2 : w3.cell? ⟨_, 2, none⟩ = some (.int .i64 t.frm) := X1.out.cells.2.2.1
      have c1_3 : w3.cell? ⟨_, 3, none⟩ = some (.int .i64 t.till) := X1.out.cells.2.2.2.1
      have c1_4 : w3.cell? ⟨_, 4, none⟩ = some (.int .i64 t.cls) := X1.out.cells.2.2.2.2.1
      have c1_5 : w3.cell? ⟨_, 5, none⟩ = some (.int .i64 t.card) := X1.out.cells.2.2.2.2.2.1
      have c1_6 : w3.cell? ⟨_, 6, none⟩ = some (.int .i64 t.seat) := X1.out.cells.2.2.2.2.2.2.1
      have c1_7 : w3.cell? ⟨_, 7, none⟩ = some (.int .i64 t.day) := X1.out.cells.2.2.2.2.2.2.2.1
      have c1_8 : w3.cell? ⟨_, 8, none⟩ = some (.int .i64 t.days) := X1.out.cells.2.2.2.2.2.2.2.2.1
      have c1_9 : w3.cell? ⟨_, 9, none⟩ = some (.int .i64 t.uses) := X1.out.cells.2.2.2.2.2.2.2.2.2.1
      have c1_10 : w3.cell? ⟨_, 10, none⟩ = some (.int .i64 t.epoch) := X1.out.cells.2.2.2.2.2.2.2.2.2.2
      have c2_0 : w3.cell? ⟨_, 0, none⟩ = some (.int .i64 u.ser) := X2.out.cells.1
      have c2_1 : w3.cell? ⟨_, 1, none⟩ = some (.int .i64 u.kind) := X2.out.cells.2.1
      have c2_2 : w3.cell? ⟨_, 2, none⟩ = some (.int .i64 u.frm) := X2.out.cells.2.2.1
      have c2_3 : w3.cell? ⟨_, 3, none⟩ = some (.int .i64 u.till) := X2.out.cells.2.2.2.1
      have c2_4 : w3.cell? ⟨_, 4, none⟩ = some (.int .i64 u.cls) := X2.out.cells.2.2.2.2.1
      have c2_5 : w3.cell? ⟨_, 5, none⟩ = some (.int .i64 u.card) := X2.out.cells.2.2.2.2.2.1
      have c2_6 : w3.cell? ⟨_, 6, none⟩ = some (.int .i64 u.seat) := X2.out.cells.2.2.2.2.2.2.1
      have c2_7 : w3.cell? ⟨_, 7, none⟩ = some (.int .i64 u.day) := X2.out.cells.2.2.2.2.2.2.2.1
      have c2_8 : w3.cell? ⟨_, 8, none⟩ = some (.int .i64 u.days) := X2.out.cells.2.2.2.2.2.2.2.2.1
      have c2_9 : w3.cell? ⟨_, 9, none⟩ = some (.int .i64 u.uses) := X2.out.cells.2.2.2.2.2.2.2.2.2.1
      have c2_10 : w3.cell? ⟨_, 10, none⟩ = some (.int .i64 u.epoch) := X2.out.cells.2.2.2.2.2.2.2.2.2.2
      have hlt : w.heap.size + 1 < w3.heap.size := X2.out.lt
      go_wp2_with fail
      obtain ⟨w4, hw⟩ : ∃ w4, w4 = w3.alloc (.cells #[.int .i64 u.ser, .int .i64 t.kind, .int .i64 t.frm, .int .i64 t.till, .int .i64 t.cls, .int .i64 t.card, .int .i64 u.seat, .int .i64 u.day, .int .i64 t.days, .int .i64 t.uses, .int .i64 u.epoch] 23) := ⟨_, rfl⟩
      rw [← hw]
      have hx : TBox w4 w3.heap.size (likeT t u) := by rw [hw]; exact TBox.new w3 (likeT t u)
      have hb : Below w3.heap.size w3 w4 := by rw [hw]; exact below_lit w3 _ _
      replace X1 := Lib.hid (X1.out.next hb)
      replace X2 := Lib.hid (X2.out.next hb)
      replace HBL := Lib.hid (HBL.out.trans (hb.mono HBL.out.size))
      have X3 := Lib.hid hx
      clear hx hb hw
      clear hlt
      refine (C.price (likeT t u) v 0 w4 RX.out HX.out HF.out).mono ?_
      rintro e w5 ⟨rfl, hb⟩
      replace X1 := Lib.hid (X1.out.next hb)
      replace X2 := Lib.hid (X2.out.next hb)
      replace X3 := Lib.hid (X3.out.next hb)
      replace HBL := Lib.hid (HBL.out.trans (hb.mono HBL.out.size))
      clear hb
      go_wp2_with fail
      refine (sold_any C w5).mono ?_
      rintro e w6 ⟨rfl, hb⟩
      replace X1 := Lib.hid (X1.out.next hb)
      replace X2 := Lib.hid (X2.out.next hb)
      replace X3 := Lib.hid (X3.out.next hb)
      replace HBL := Lib.hid (HBL.out.trans (hb.mono HBL.out.size))
      clear hb
      go_wp2
      go_ret
      exact ⟨rfl, HBL.out⟩
end Go.Proofs.Ytmcdidbcfhgijaa
