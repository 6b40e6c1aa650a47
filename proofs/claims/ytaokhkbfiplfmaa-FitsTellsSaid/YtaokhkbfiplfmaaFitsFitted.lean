/-
  The laws' constant check of layer 20, walked. Conditions: none.
-/
import Derived.Test.YtaokhkbfiplfmaaFitsP
import Derived.Test.YtaokhkbfiplfmaaTicketBox
namespace Go.Proofs.Ytaokhkbfiplfmaa
set_option linter.unusedVariables false
open Go.ChangeShapes Go.WideShapes Go.ChangeAt Go.RowKit

def ft0 : Tk := ⟨42, 1, 3, 20, 2, 0, 0, 10, 1, 1, 0⟩
def ft1 : Tk := ⟨42, 1, 3, 20, 2, 2, 0, 10, 1, 1, 0⟩
def ft2 : Tk := ⟨42, 1, 3, 20, 2, 2, 9, 10, 1, 1, 0⟩
def ft3 : Tk := ⟨42, 1, 3, 20, 9, 2, 9, 10, 1, 1, 0⟩
theorem tbox_set {w : World} {b j : Nat} {t u : Tk} {x : Value} (h : TBox w b t) (e : (#[.int .i64 t.ser, .int .i64 t.kind, .int .i64 t.frm, .int .i64 t.till, .int .i64 t.cls, .int .i64 t.card, .int .i64 t.seat, .int .i64 t.day, .int .i64 t.days, .int .i64 t.uses, .int .i64 t.epoch] : Array Value).setIfInBounds j x = #[.int .i64 u.ser, .int .i64 u.kind, .int .i64 u.frm, .int .i64 u.till, .int .i64 u.cls, .int .i64 u.card, .int .i64 u.seat, .int .i64 u.day, .int .i64 u.days, .int .i64 u.uses, .int .i64 u.epoch]) : TBox (w.setCell ⟨b, j, none⟩ x) b u := by
  have := heap_setCell_same w b j _ _ x h
  rw [e] at this
  exact this
set_option maxRecDepth 100000 in
set_option maxHeartbeats 1600000 in
theorem plain20_any (w : World) : Calls Try.prog 15 #[] w fun e w' => e = .returned (.agg #[.int .i64 ft0.ser, .int .i64 ft0.kind, .int .i64 ft0.frm, .int .i64 ft0.till, .int .i64 ft0.cls, .int .i64 ft0.card, .int .i64 ft0.seat, .int .i64 ft0.day, .int .i64 ft0.days, .int .i64 ft0.uses, .int .i64 ft0.epoch]) ∧ Below w.heap.size w w' := by
  have HBL := Lib.hid (Below.refl w.heap.size w)
  go_enter Try.func15, Try.ntmps15
  go_wp2
  exact bodyPost_ret (results_row Try.results15 _ _ w.heap.size _ _ (0, 0) _ rfl (heap_alloc_new w _) Try.underlying23 rfl infoTk) rfl ⟨rfl, below_lit w _ _⟩
set_option maxRecDepth 100000 in
set_option maxHeartbeats 1600000 in
theorem fitted_any (w : World) : Calls Try.prog 7 #[] w fun e w' => e = .returned (.bool true) ∧ Below w.heap.size w w' := by
  have HBL := Lib.hid (Below.refl w.heap.size w)
  go_enter Try.func7, Try.ntmps7
  go_wp2_with fail
  refine (plain20_any w).mono ?_
  rintro e w1 ⟨rfl, hb⟩
  replace HBL := Lib.hid (HBL.out.trans (hb.mono HBL.out.size))
  clear hb
  go_wp2_with fail
  obtain ⟨w2, hw⟩ : ∃ w2, w2 = w1.alloc (.cells #[.int .i64 ft0.ser, .int .i64 ft0.kind, .int .i64 ft0.frm, .int .i64 ft0.till, .int .i64 ft0.cls, .int .i64 ft0.card, .int .i64 ft0.seat, .int .i64 ft0.day, .int .i64 ft0.days, .int .i64 ft0.uses, .int .i64 ft0.epoch] 23) := ⟨_, rfl⟩
  rw [← hw]
  have hx : TBox w2 w1.heap.size ft0 := by rw [hw]; exact TBox.new w1 ft0
  have HGE := Lib.hid HBL.out.size
  have hb : Below w1.heap.size w1 w2 := by rw [hw]; exact below_lit w1 _ _
  replace HBL := Lib.hid (HBL.out.trans (hb.mono HBL.out.size))
  have X1 := Lib.hid hx
  clear hx hb hw
  obtain ⟨B1, hB⟩ : ∃ B, B = w1.heap.size := ⟨_, rfl⟩
  rw [← hB] at X1 HGE ⊢
  clear hB
  obtain ⟨c0, c1, c2, c3, c4, c5, c6, c7, c8, c9, c10⟩ := X1.out.cells
  go_wp2_with fail
  refine (pfstripe_any ft0 true (by decide) w2).mono ?_
  rintro e w3 ⟨rfl, hb⟩
  clear c0 c1 c2 c3 c4 c5 c6 c7 c8 c9 c10
  replace X1 := Lib.hid (X1.out.next hb)
  replace HBL := Lib.hid (HBL.out.trans (hb.mono HBL.out.size))
  clear hb
  obtain ⟨c0, c1, c2, c3, c4, c5, c6, c7, c8, c9, c10⟩ := X1.out.cells
  go_wp2_with fail
  refine (pfversion_any ft0 1 0 (by decide) (by decide) w3).mono ?_
  rintro e w4 ⟨rfl, hb⟩
  clear c0 c1 c2 c3 c4 c5 c6 c7 c8 c9 c10
  replace X1 := Lib.hid (X1.out.next hb)
  replace HBL := Lib.hid (HBL.out.trans (hb.mono HBL.out.size))
  clear hb
  obtain ⟨c0, c1, c2, c3, c4, c5, c6, c7, c8, c9, c10⟩ := X1.out.cells
  go_wp2_with fail
  refine (pfbarcode_any ft0 1 true (by decide) w4).mono ?_
  rintro e w5 ⟨rfl, hb⟩
  clear c0 c1 c2 c3 c4 c5 c6 c7 c8 c9 c10
  replace X1 := Lib.hid (X1.out.next hb)
  replace HBL := Lib.hid (HBL.out.trans (hb.mono HBL.out.size))
  clear hb
  obtain ⟨c0, c1, c2, c3, c4, c5, c6, c7, c8, c9, c10⟩ := X1.out.cells
  have cf := X1.out.frozen 5
  go_wp2_with fail
  have hx := tbox_set (j := 5) (x := .int .i64 2) (u := ft1) X1.out rfl
  have hb := HBL.out.setCell (p := ⟨B1, 5, none⟩) HGE.out (.int .i64 2)
  clear c0 c1 c2 c3 c4 c5 c6 c7 c8 c9 c10 cf
  clear X1 HBL
  obtain ⟨w6, hw⟩ : ∃ w6, w6 = w5.setCell ⟨B1, 5, none⟩ (.int .i64 2) := ⟨_, rfl⟩
  rw [← hw] at hx hb ⊢
  clear hw
  have X1 := Lib.hid hx
  have HBL := Lib.hid hb
  clear hx hb
  obtain ⟨c0, c1, c2, c3, c4, c5, c6, c7, c8, c9, c10⟩ := X1.out.cells
  go_wp2_with fail
  refine (pfversion_any ft1 2 0 (by decide) (by decide) w6).mono ?_
  rintro e w7 ⟨rfl, hb⟩
  clear c0 c1 c2 c3 c4 c5 c6 c7 c8 c9 c10
  replace X1 := Lib.hid (X1.out.next hb)
  replace HBL := Lib.hid (HBL.out.trans (hb.mono HBL.out.size))
  clear hb
  obtain ⟨c0, c1, c2, c3, c4, c5, c6, c7, c8, c9, c10⟩ := X1.out.cells
  go_wp2_with fail
  refine (pfbarcode_any ft1 1 false (by decide) w7).mono ?_
  rintro e w8 ⟨rfl, hb⟩
  clear c0 c1 c2 c3 c4 c5 c6 c7 c8 c9 c10
  replace X1 := Lib.hid (X1.out.next hb)
  replace HBL := Lib.hid (HBL.out.trans (hb.mono HBL.out.size))
  clear hb
  obtain ⟨c0, c1, c2, c3, c4, c5, c6, c7, c8, c9, c10⟩ := X1.out.cells
  have cf := X1.out.frozen 6
  go_wp2_with fail
  have hx := tbox_set (j := 6) (x := .int .i64 9) (u := ft2) X1.out rfl
  have hb := HBL.out.setCell (p := ⟨B1, 6, none⟩) HGE.out (.int .i64 9)
  clear c0 c1 c2 c3 c4 c5 c6 c7 c8 c9 c10 cf
  clear X1 HBL
  obtain ⟨w9, hw⟩ : ∃ w9, w9 = w8.setCell ⟨B1, 6, none⟩ (.int .i64 9) := ⟨_, rfl⟩
  rw [← hw] at hx hb ⊢
  clear hw
  have X1 := Lib.hid hx
  have HBL := Lib.hid hb
  clear hx hb
  obtain ⟨c0, c1, c2, c3, c4, c5, c6, c7, c8, c9, c10⟩ := X1.out.cells
  go_wp2_with fail
  refine (pfversion_any ft2 3 0 (by decide) (by decide) w9).mono ?_
  rintro e w10 ⟨rfl, hb⟩
  clear c0 c1 c2 c3 c4 c5 c6 c7 c8 c9 c10
  replace X1 := Lib.hid (X1.out.next hb)
  replace HBL := Lib.hid (HBL.out.trans (hb.mono HBL.out.size))
  clear hb
  obtain ⟨c0, c1, c2, c3, c4, c5, c6, c7, c8, c9, c10⟩ := X1.out.cells
  go_wp2_with fail
  refine (pfstripe_any ft2 false (by decide) w10).mono ?_
  rintro e w11 ⟨rfl, hb⟩
  clear c0 c1 c2 c3 c4 c5 c6 c7 c8 c9 c10
  replace X1 := Lib.hid (X1.out.next hb)
  replace HBL := Lib.hid (HBL.out.trans (hb.mono HBL.out.size))
  clear hb
  obtain ⟨c0, c1, c2, c3, c4, c5, c6, c7, c8, c9, c10⟩ := X1.out.cells
  have cf := X1.out.frozen 4
  go_wp2_with fail
  have hx := tbox_set (j := 4) (x := .int .i64 9) (u := ft3) X1.out rfl
  have hb := HBL.out.setCell (p := ⟨B1, 4, none⟩) HGE.out (.int .i64 9)
  clear c0 c1 c2 c3 c4 c5 c6 c7 c8 c9 c10 cf
  clear X1 HBL
  obtain ⟨w12, hw⟩ : ∃ w12, w12 = w11.setCell ⟨B1, 4, none⟩ (.int .i64 9) := ⟨_, rfl⟩
  rw [← hw] at hx hb ⊢
  clear hw
  have X1 := Lib.hid hx
  have HBL := Lib.hid hb
  clear hx hb
  obtain ⟨c0, c1, c2, c3, c4, c5, c6, c7, c8, c9, c10⟩ := X1.out.cells
  go_wp2_with fail
  refine (pfversion_any ft3 0 1 (by decide) (by decide) w12).mono ?_
  rintro e w13 ⟨rfl, hb⟩
  clear c0 c1 c2 c3 c4 c5 c6 c7 c8 c9 c10
  replace X1 := Lib.hid (X1.out.next hb)
  replace HBL := Lib.hid (HBL.out.trans (hb.mono HBL.out.size))
  clear hb
  go_wp2
  go_ret
  exact ⟨rfl, HBL.out⟩
end Go.Proofs.Ytaokhkbfiplfmaa
