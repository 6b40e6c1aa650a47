/-
  Contracts for the reference's Stripe, Version and Barcode of fits. Conditions: none.
-/
import Derived.Test.YtaokhkbfiplfmaaTicketRefIs
import Derived.Test.YtaokhkbfiplfmaaFitsMath
namespace Go.Proofs.Ytaokhkbfiplfmaa
set_option linter.unusedVariables false
open Go.ChangeShapes Go.WideShapes Go.ChangeAt Go.RowKit

set_option maxRecDepth 100000 in
set_option maxHeartbeats 1600000 in
theorem rfstripe_any (t : Tk) (b : Bool) (hb : roomS t = b) (w : World) : Calls Try.prog 9 #[.agg #[.int .i64 t.ser, .int .i64 t.kind, .int .i64 t.frm, .int .i64 t.till, .int .i64 t.cls, .int .i64 t.card, .int .i64 t.seat, .int .i64 t.day, .int .i64 t.days, .int .i64 t.uses, .int .i64 t.epoch]] w fun e w' => e = .returned (.bool b) ∧ Below w.heap.size w w' := by
  have HBL := Lib.hid (Below.refl w.heap.size w)
  have HB := Lib.hid (show (okT t && (decide (t.ser ≤ 9999999) && (t.seat == 0))) = b from hb)
  clear hb
  cases h0 : okT t <;> cases h1 : decide (t.ser ≤ 9999999) <;> cases h2 : (t.seat == 0)
  all_goals
    have hb := HB.out
    rw [h0, h1, h2] at hb
    subst hb
    have H0 := Lib.hid h0
    clear h0
    go_enter Try.func9, Try.ntmps9
    go_wp2_with fail
    obtain ⟨w1, hw⟩ : ∃ w1, w1 = w.alloc (.cells #[.int .i64 t.ser, .int .i64 t.kind, .int .i64 t.frm, .int .i64 t.till, .int .i64 t.cls, .int .i64 t.card, .int .i64 t.seat, .int .i64 t.day, .int .i64 t.days, .int .i64 t.uses, .int .i64 t.epoch] 23) := ⟨_, rfl⟩
    rw [← hw]
    have hx : TBox w1 w.heap.size t := by rw [hw]; exact TBox.new w t
    have hb : Below w.heap.size w w1 := by rw [hw]; exact below_lit w _ _
    replace HBL := Lib.hid (HBL.out.trans (hb.mono HBL.out.size))
    have X1 := Lib.hid hx
    clear hx hb hw
    obtain ⟨B1, hB⟩ : ∃ B, B = w.heap.size := ⟨_, rfl⟩
    rw [← hB] at X1 ⊢
    clear hB
    refine (refis9_any t _ H0.out w1).mono ?_
    rintro e w2 ⟨rfl, hb⟩
    replace X1 := Lib.hid (X1.out.next hb)
    replace HBL := Lib.hid (HBL.out.trans (hb.mono HBL.out.size))
    clear hb
    obtain ⟨c0, c1, c2, c3, c4, c5, c6, c7, c8, c9, c10⟩ := X1.out.cells
    go_wp2
    go_ret
    exact ⟨rfl, HBL.out⟩
set_option maxRecDepth 100000 in
set_option maxHeartbeats 1600000 in
theorem rfversion_any (t : Tk) (v E : Int) (hv : (if okT t then leastV t else 0) = v) (hE : (if okT t then 0 else 1) = E) (w : World) : Calls Try.prog 6 #[.agg #[.int .i64 t.ser, .int .i64 t.kind, .int .i64 t.frm, .int .i64 t.till, .int .i64 t.cls, .int .i64 t.card, .int .i64 t.seat, .int .i64 t.day, .int .i64 t.days, .int .i64 t.uses, .int .i64 t.epoch]] w fun e w' => e = .returned (.tuple #[.int .i64 v, .int .i64 E]) ∧ Below w.heap.size w w' := by
  have HBL := Lib.hid (Below.refl w.heap.size w)
  have HV := Lib.hid hv
  have HE := Lib.hid hE
  clear hv hE
  cases h0 : okT t <;> cases h1 : (t.seat != 0) <;> cases h2 : (t.card != 0)
  all_goals
    have hv := HV.out
    have hE := HE.out
    rw [h0] at hv hE
    have H0 := Lib.hid h0
    clear h0
    simp only [leastV, ← bne_iff_ne, h1, h2, if_true, if_false, Bool.false_eq_true] at hv hE
    subst hv hE
    go_enter Try.func6, Try.ntmps6
    go_wp2_with fail
    obtain ⟨w1, hw⟩ : ∃ w1, w1 = w.alloc (.cells #[.int .i64 t.ser, .int .i64 t.kind, .int .i64 t.frm, .int .i64 t.till, .int .i64 t.cls, .int .i64 t.card, .int .i64 t.seat, .int .i64 t.day, .int .i64 t.days, .int .i64 t.uses, .int .i64 t.epoch] 23) := ⟨_, rfl⟩
    rw [← hw]
    have hx : TBox w1 w.heap.size t := by rw [hw]; exact TBox.new w t
    have hb : Below w.heap.size w w1 := by rw [hw]; exact below_lit w _ _
    replace HBL := Lib.hid (HBL.out.trans (hb.mono HBL.out.size))
    have X1 := Lib.hid hx
    clear hx hb hw
    obtain ⟨B1, hB⟩ : ∃ B, B = w.heap.size := ⟨_, rfl⟩
    rw [← hB] at X1 ⊢
    clear hB
    refine (refis9_any t _ H0.out w1).mono ?_
    rintro e w2 ⟨rfl, hb⟩
    replace X1 := Lib.hid (X1.out.next hb)
    replace HBL := Lib.hid (HBL.out.trans (hb.mono HBL.out.size))
    clear hb
    obtain ⟨c0, c1, c2, c3, c4, c5, c6, c7, c8, c9, c10⟩ := X1.out.cells
    go_wp2
    go_ret2
    exact ⟨rfl, HBL.out⟩
set_option maxRecDepth 100000 in
set_option maxHeartbeats 1600000 in
theorem rfbarcode_any (t : Tk) (v : Int) (b : Bool) (hb : roomB t v = b) (w : World) : Calls Try.prog 11 #[.agg #[.int .i64 t.ser, .int .i64 t.kind, .int .i64 t.frm, .int .i64 t.till, .int .i64 t.cls, .int .i64 t.card, .int .i64 t.seat, .int .i64 t.day, .int .i64 t.days, .int .i64 t.uses, .int .i64 t.epoch], .int .i64 v] w fun e w' => e = .returned (.bool b) ∧ Below w.heap.size w w' := by
  have HBL := Lib.hid (Below.refl w.heap.size w)
  obtain ⟨y, hy⟩ : ∃ y, (if okT t then leastV t else 0) = y := ⟨_, rfl⟩
  obtain ⟨E, hE⟩ : ∃ E : Int, (if okT t then 0 else 1) = E := ⟨_, rfl⟩
  have HY := Lib.hid hy
  have HE := Lib.hid hE
  have hb' : ((E == 0) && (decide (y ≤ v) && decide (v ≤ 3))) = b := by
    rw [← hb, ← hy, ← hE, roomB]
    cases okT t <;> rfl
  have HB := Lib.hid hb'
  clear hb hy hE hb'
  cases h0 : (E == 0) <;> cases h1 : decide (y ≤ v) <;> cases h2 : decide (v ≤ 3)
  all_goals
    have hb := HB.out
    rw [h0, h1, h2] at hb
    subst hb
    go_enter Try.func11, Try.ntmps11
    go_wp2_with fail
    obtain ⟨w1, hw⟩ : ∃ w1, w1 = w.alloc (.cells #[.int .i64 t.ser, .int .i64 t.kind, .int .i64 t.frm, .int .i64 t.till, .int .i64 t.cls, .int .i64 t.card, .int .i64 t.seat, .int .i64 t.day, .int .i64 t.days, .int .i64 t.uses, .int .i64 t.epoch] 23) := ⟨_, rfl⟩
    rw [← hw]
    have hx : TBox w1 w.heap.size t := by rw [hw]; exact TBox.new w t
    have hb : Below w.heap.size w w1 := by rw [hw]; exact below_lit w _ _
    replace HBL := Lib.hid (HBL.out.trans (hb.mono HBL.out.size))
    have X1 := Lib.hid hx
    clear hx hb hw
    obtain ⟨B1, hB⟩ : ∃ B, B = w.heap.size := ⟨_, rfl⟩
    rw [← hB] at X1 ⊢
    clear hB
    refine (rfversion_any t y E HY.out HE.out w1).mono ?_
    rintro e w2 ⟨rfl, hb⟩
    replace X1 := Lib.hid (X1.out.next hb)
    replace HBL := Lib.hid (HBL.out.trans (hb.mono HBL.out.size))
    clear hb
    go_wp2
    go_ret
    exact ⟨rfl, HBL.out⟩
end Go.Proofs.Ytaokhkbfiplfmaa
