/-
  Contracts for the program's Stripe, Version and Barcode of fits. Conditions: none.
-/
import Derived.Test.YtaokhkbfiplfmaaTicketPIs
import Derived.Test.YtaokhkbfiplfmaaFitsMath
import Derived.Test.YtaokhkbfiplfmaaFitsPTell
namespace Go.Proofs.Ytaokhkbfiplfmaa
set_option linter.unusedVariables false
open Go.ChangeShapes Go.WideShapes Go.ChangeAt Go.RowKit

set_option maxRecDepth 100000 in
set_option maxHeartbeats 1600000 in
theorem pfstripe_any (t : Tk) (b : Bool) (hb : roomS t = b) (w : World) : Calls Try.prog 8 #[.agg #[.int .i64 t.ser, .int .i64 t.kind, .int .i64 t.frm, .int .i64 t.till, .int .i64 t.cls, .int .i64 t.card, .int .i64 t.seat, .int .i64 t.day, .int .i64 t.days, .int .i64 t.uses, .int .i64 t.epoch]] w fun e w' => e = .returned (.bool b) ∧ Below w.heap.size w w' := by
  have HBL := Lib.hid (Below.refl w.heap.size w)
  have HB := Lib.hid (show (okT t && (decide (t.ser ≤ 9999999) && (t.seat == 0))) = b from hb)
  clear hb
  cases h0 : okT t <;> cases h1 : decide (t.ser ≤ 9999999) <;> cases h2 : (t.seat == 0)
  all_goals
    have hb := HB.out
    rw [h0, h1, h2] at hb
    subst hb
    have H0 := Lib.hid h0
    clear h0
    go_enter Try.func8, Try.ntmps8
    go_wp2_with fail
    obtain ⟨w1, hw⟩ : ∃ w1, w1 = w.alloc (.cells #[.int .i64 t.ser, .int .i64 t.kind, .int .i64 t.frm, .int .i64 t.till, .int .i64 t.cls, .int .i64 t.card, .int .i64 t.seat, .int .i64 t.day, .int .i64 t.days, .int .i64 t.uses, .int .i64 t.epoch] 23) := ⟨_, rfl⟩
    rw [← hw]
    have hx : TBox w1 w.heap.size t := by rw [hw]; exact TBox.new w t
    have hb : Below w.heap.size w w1 := by rw [hw]; exact below_lit w _ _
    replace HBL := Lib.hid (HBL.out.trans (hb.mono HBL.out.size))
    have X1 := Lib.hid hx
    clear hx hb hw
    obtain ⟨B1, hB⟩ : ∃ B, B = w.heap.size := ⟨_, rfl⟩
    rw [← hB] at X1 ⊢
    clear hB
    refine (pis9_any t _ H0.out w1).mono ?_
    rintro e w2 ⟨rfl, hb⟩
    replace X1 := Lib.hid (X1.out.next hb)
    replace HBL := Lib.hid (HBL.out.trans (hb.mono HBL.out.size))
    clear hb
    obtain ⟨c0, c1, c2, c3, c4, c5, c6, c7, c8, c9, c10⟩ := X1.out.cells
    go_wp2
    go_ret
    exact ⟨rfl, HBL.out⟩
set_option maxRecDepth 100000 in
set_option maxHeartbeats 1600000 in
theorem pfversion_any (t : Tk) (v E : Int) (hv : (if okT t then leastV t else 0) = v) (hE : (if okT t then 0 else 1) = E) (w : World) : Calls Try.prog 5 #[.agg #[.int .i64 t.ser, .int .i64 t.kind, .int .i64 t.frm, .int .i64 t.till, .int .i64 t.cls, .int .i64 t.card, .int .i64 t.seat, .int .i64 t.day, .int .i64 t.days, .int .i64 t.uses, .int .i64 t.epoch]] w fun e w' => e = .returned (.tuple #[.int .i64 v, .int .i64 E]) ∧ Below w.heap.size w w' := by
  have HBL := Lib.hid (Below.refl w.heap.size w)
  cases h0 : okT t
  · have H0 := Lib.hid h0
    rw [h0] at hv hE
    obtain rfl : 0 = v := hv
    obtain rfl : 1 = E := hE
    clear h0
    go_enter Try.func5, Try.ntmps5
    go_wp2_with fail
    obtain ⟨w1, hw⟩ : ∃ w1, w1 = w.alloc (.cells #[.int .i64 t.ser, .int .i64 t.kind, .int .i64 t.frm, .int .i64 t.till, .int .i64 t.cls, .int .i64 t.card, .int .i64 t.seat, .int .i64 t.day, .int .i64 t.days, .int .i64 t.uses, .int .i64 t.epoch] 23) := ⟨_, rfl⟩
    rw [← hw]
    have hx : TBox w1 w.heap.size t := by rw [hw]; exact TBox.new w t
    have hb : Below w.heap.size w w1 := by rw [hw]; exact below_lit w _ _
    replace HBL := Lib.hid (HBL.out.trans (hb.mono HBL.out.size))
    have X1 := Lib.hid hx
    clear hx hb hw
    obtain ⟨B1, hB⟩ : ∃ B, B = w.heap.size := ⟨_, rfl⟩
    rw [← hB] at X1 ⊢
    clear hB
    refine (pis9_any t false H0.out w1).mono ?_
    rintro e w2 ⟨rfl, hb⟩
    replace X1 := Lib.hid (X1.out.next hb)
    replace HBL := Lib.hid (HBL.out.trans (hb.mono HBL.out.size))
    clear hb
    go_wp2
    go_ret2
    exact ⟨rfl, HBL.out⟩
  · have H0 := Lib.hid h0
    rw [h0] at hv hE
    obtain rfl : 0 = E := hE
    have HV := Lib.hid (show leastV t = v from hv)
    clear h0 hv
    go_enter Try.func5, Try.ntmps5
    go_wp2_with fail
    obtain ⟨w1, hw⟩ : ∃ w1, w1 = w.alloc (.cells #[.int .i64 t.ser, .int .i64 t.kind, .int .i64 t.frm, .int .i64 t.till, .int .i64 t.cls, .int .i64 t.card, .int .i64 t.seat, .int .i64 t.day, .int .i64 t.days, .int .i64 t.uses, .int .i64 t.epoch] 23) := ⟨_, rfl⟩
    rw [← hw]
    have hx : TBox w1 w.heap.size t := by rw [hw]; exact TBox.new w t
    have hb : Below w.heap.size w w1 := by rw [hw]; exact below_lit w _ _
    replace HBL := Lib.hid (HBL.out.trans (hb.mono HBL.out.size))
    have X1 := Lib.hid hx
    clear hx hb hw
    obtain ⟨B1, hB⟩ : ∃ B, B = w.heap.size := ⟨_, rfl⟩
    rw [← hB] at X1 ⊢
    clear hB
    refine (pis9_any t true H0.out w1).mono ?_
    rintro e w2 ⟨rfl, hb⟩
    replace X1 := Lib.hid (X1.out.next hb)
    replace HBL := Lib.hid (HBL.out.trans (hb.mono HBL.out.size))
    clear hb
    obtain ⟨c0, c1, c2, c3, c4, c5, c6, c7, c8, c9, c10⟩ := X1.out.cells
    go_wp2_with fail
    obtain ⟨w3, hw⟩ : ∃ w3, w3 = w2.alloc (.cells #[.int .i64 t.card, .int .i64 t.seat] 3) := ⟨_, rfl⟩
    rw [← hw]
    have k0 : w3.cell? ⟨w2.heap.size, 0, none⟩ = some (.int .i64 t.card) := by rw [hw]; exact (cell_of_row _ _ 0 _ _ (0, 0) (heap_alloc_new w2 _)).trans rfl
    have k1 : w3.cell? ⟨w2.heap.size, 1, none⟩ = some (.int .i64 t.seat) := by rw [hw]; exact (cell_of_row _ _ 1 _ _ (0, 0) (heap_alloc_new w2 _)).trans rfl
    have hb : Below w2.heap.size w2 w3 := by rw [hw]; exact below_lit w2 _ _
    clear c0 c1 c2 c3 c4 c5 c6 c7 c8 c9 c10
    replace X1 := Lib.hid (X1.out.next hb)
    replace HBL := Lib.hid (HBL.out.trans (hb.mono HBL.out.size))
    clear hb hw
    refine (ptell_any t.card t.seat v HV.out _ w3 k0 k1).mono ?_
    rintro e w9 ⟨rfl, rfl⟩
    go_wp2
    go_ret2
    exact ⟨rfl, HBL.out⟩
set_option maxRecDepth 100000 in
set_option maxHeartbeats 1600000 in
theorem pfbarcode_any (t : Tk) (v : Int) (b : Bool) (hb : roomB t v = b) (w : World) : Calls Try.prog 10 #[.agg #[.int .i64 t.ser, .int .i64 t.kind, .int .i64 t.frm, .int .i64 t.till, .int .i64 t.cls, .int .i64 t.card, .int .i64 t.seat, .int .i64 t.day, .int .i64 t.days, .int .i64 t.uses, .int .i64 t.epoch], .int .i64 v] w fun e w' => e = .returned (.bool b) ∧ Below w.heap.size w w' := by
  have HBL := Lib.hid (Below.refl w.heap.size w)
  obtain ⟨y, hy⟩ : ∃ y, (if okT t then leastV t else 0) = y := ⟨_, rfl⟩
  obtain ⟨E, hE⟩ : ∃ E : Int, (if okT t then 0 else 1) = E := ⟨_, rfl⟩
  have HY := Lib.hid hy
  have HE := Lib.hid hE
  have hb' : ((E == 0) && (decide (y ≤ v) && decide (v ≤ 3))) = b := by
    rw [← hb, ← hy, ← hE, roomB]
    cases okT t <;> rfl
  have HB := Lib.hid hb'
  clear hb hy hE hb'
  cases h0 : (E == 0) <;> cases h1 : decide (y ≤ v) <;> cases h2 : decide (v ≤ 3)
  all_goals
    have hb := HB.out
    rw [h0, h1, h2] at hb
    subst hb
    go_enter Try.func10, Try.ntmps10
    go_wp2_with fail
    obtain ⟨w1, hw⟩ : ∃ w1, w1 = w.alloc (.cells #[.int .i64 t.ser, .int .i64 t.kind, .int .i64 t.frm, .int .i64 t.till, .int .i64 t.cls, .int .i64 t.card, .int .i64 t.seat, .int .i64 t.day, .int .i64 t.days, .int .i64 t.uses, .int .i64 t.epoch] 23) := ⟨_, rfl⟩
    rw [← hw]
    have hx : TBox w1 w.heap.size t := by rw [hw]; exact TBox.new w t
    have hb : Below w.heap.size w w1 := by rw [hw]; exact below_lit w _ _
    replace HBL := Lib.hid (HBL.out.trans (hb.mono HBL.out.size))
    have X1 := Lib.hid hx
    clear hx hb hw
    obtain ⟨B1, hB⟩ : ∃ B, B = w.heap.size := ⟨_, rfl⟩
    rw [← hB] at X1 ⊢
    clear hB
    refine (pfversion_any t y E HY.out HE.out w1).mono ?_
    rintro e w2 ⟨rfl, hb⟩
    replace X1 := Lib.hid (X1.out.next hb)
    replace HBL := Lib.hid (HBL.out.trans (hb.mono HBL.out.size))
    clear hb
    go_wp2
    go_ret
    exact ⟨rfl, HBL.out⟩
end Go.Proofs.Ytaokhkbfiplfmaa
