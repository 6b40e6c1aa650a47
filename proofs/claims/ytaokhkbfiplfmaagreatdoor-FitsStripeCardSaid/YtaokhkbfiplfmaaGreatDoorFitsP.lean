/-
  Contracts for the program's Stripe, Version and Barcode of fits. Conditions: none.
  The laws' constant check of layer 20, walked. Conditions: none.
  The last step that laws share: a law that answered true and turned nothing old meets its row; and how arguments are opened. Conditions: none of its own.
  Rows of any ints: how a slice reads as such a row; what a call owns; how one that came in is opened. No program of its own; conditions: none.
  A reading in a box; a journey in one. No program of its own; conditions: the block is there.
  A reading in a box, at work or not; a journey in one. Field rows: what a slice of fields reads as. No program of its own; conditions: the block is there.
  Contracts for the landed methods that tell a part's fields. Conditions: none.
  Contracts for the landed partsOf and fields. Conditions: none.
  Contract for the landed fields. Conditions: none.
  A slice value that reads as bytes; what a call owns of them. No program of its own; conditions: none.
  Rows of bytes and of ints: what a call owns, as a slice that reads; literals. No program of its own; conditions: none.
  Contract for the landed Widths. Conditions: none.
  A law for append within a region that leaves its order open: what was in the row stays readable at its old place. No program of its own; conditions: the row is the call's own.
-/
import Derived.Test.YtaokhkbfiplfmaaGreatDoorTicketPRightK
import Derived.Test.YtaokhkbfiplfmaaGreatDoorMath
import Derived.Test.YtaokhkbfiplfmaaGreatDoorMem
import Derived.Carry
import Derived.ChangeSlices
import Derived.OpenShut
import Derived.SizedLaws
import Derived.BigRegion
import Derived.RegionTactic
import Derived.Laws.EntriesVeiled
import Derived.Shelf.Abstract
import Derived.OwnWalk
import Derived.ArgAppend
section
namespace Go.Proofs.YtaokhkbfiplfmaaGreatDoor
set_option linter.unusedVariables false
open Go.ChangeShapes Go.WideShapes Go.ChangeAt Go.RowKit

set_option maxRecDepth 100000 in
set_option maxHeartbeats 1600000 in
theorem pfstripe_any (t : Tk) (b : Bool) (hb : roomS t = b) (w : World) : Calls Tryz.prog 7 #[.agg #[.int .i64 t.ser, .int .i64 t.kind, .int .i64 t.frm, .int .i64 t.till, .int .i64 t.cls, .int .i64 t.card, .int .i64 t.seat, .int .i64 t.day, .int .i64 t.days, .int .i64 t.uses, .int .i64 t.epoch]] w fun e w' => e = .returned (.bool b) ∧ Below w.heap.size w w' := by
  have HBL := Lib.hid (Below.refl w.heap.size w)
  have HB := Lib.hid (show (okT t && (decide (t.ser ≤ 9999999) && (t.seat == 0))) = b from hb)
  clear hb
  cases h0 : okT t <;> cases h1 : decide (t.ser ≤ 9999999) <;> cases h2 : (t.seat == 0)
  all_goals
    have hb := HB.out
    rw [h0, h1, h2] at hb
    subst hb
    have H0 := Lib.hid h0
    clear h0
    go_enter Tryz.func7, Tryz.ntmps7
    go_wp2_with fail
    obtain ⟨w1, hw⟩ : ∃ w1, w1 = w.alloc (.cells #[.int .i64 t.ser, .int .i64 t.kind, .int .i64 t.frm, .int .i64 t.till, .int .i64 t.cls, .int .i64 t.card, .int .i64 t.seat, .int .i64 t.day, .int .i64 t.days, .int .i64 t.uses, .int .i64 t.epoch] 23) := ⟨_, rfl⟩
    rw [← hw]
    have hx : TBox w1 w.heap.size t := by rw [hw]; exact TBox.new w t
    have hb : Below w.heap.size w w1 := by rw [hw]; exact below_lit w _ _
    replace HBL := Lib.hid (HBL.out.trans (hb.mono HBL.out.size))
    have X1 := Lib.hid hx
    clear hx hb hw
    obtain ⟨B1, hB⟩ : ∃ B, B = w.heap.size := ⟨_, rfl⟩
    rw [← hB] at X1 ⊢
    clear hB
    refine (pis9_any t _ H0.out w1).mono ?_
    rintro e w2 ⟨rfl, hb⟩
    replace X1 := Lib.hid (X1.out.next hb)
    replace HBL := Lib.hid (HBL.out.trans (hb.mono HBL.out.size))
    clear hb
    obtain ⟨c0, c1, c2, c3, c4, c5, c6, c7, c8, c9, c10⟩ := X1.out.cells
    go_wp2
    go_ret
    exact ⟨rfl, HBL.out⟩
set_option maxRecDepth 100000 in
set_option maxHeartbeats 1600000 in
theorem pfversion_any (t : Tk) (v E : Int) (hv : (if okT t then leastV t else 0) = v) (hE : (if okT t then 0 else 1) = E) (w : World) : Calls Tryz.prog 10 #[.agg #[.int .i64 t.ser, .int .i64 t.kind, .int .i64 t.frm, .int .i64 t.till, .int .i64 t.cls, .int .i64 t.card, .int .i64 t.seat, .int .i64 t.day, .int .i64 t.days, .int .i64 t.uses, .int .i64 t.epoch]] w fun e w' => e = .returned (.tuple #[.int .i64 v, .int .i64 E]) ∧ Below w.heap.size w w' := by
  have HBL := Lib.hid (Below.refl w.heap.size w)
  cases h0 : okT t
  · have H0 := Lib.hid h0
    rw [h0] at hv hE
    obtain rfl : 0 = v := hv
    obtain rfl : 1 = E := hE
    clear h0
    go_enter Tryz.func10, Tryz.ntmps10
    go_wp2_with fail
    obtain ⟨w1, hw⟩ : ∃ w1, w1 = w.alloc (.cells #[.int .i64 t.ser, .int .i64 t.kind, .int .i64 t.frm, .int .i64 t.till, .int .i64 t.cls, .int .i64 t.card, .int .i64 t.seat, .int .i64 t.day, .int .i64 t.days, .int .i64 t.uses, .int .i64 t.epoch] 23) := ⟨_, rfl⟩
    rw [← hw]
    have hx : TBox w1 w.heap.size t := by rw [hw]; exact TBox.new w t
    have hb : Below w.heap.size w w1 := by rw [hw]; exact below_lit w _ _
    replace HBL := Lib.hid (HBL.out.trans (hb.mono HBL.out.size))
    have X1 := Lib.hid hx
    clear hx hb hw
    obtain ⟨B1, hB⟩ : ∃ B, B = w.heap.size := ⟨_, rfl⟩
    rw [← hB] at X1 ⊢
    clear hB
    refine (pis9_any t false H0.out w1).mono ?_
    rintro e w2 ⟨rfl, hb⟩
    replace X1 := Lib.hid (X1.out.next hb)
    replace HBL := Lib.hid (HBL.out.trans (hb.mono HBL.out.size))
    clear hb
    go_wp2
    go_ret2
    exact ⟨rfl, HBL.out⟩
  · have H0 := Lib.hid h0
    rw [h0] at hv hE
    obtain rfl : 0 = E := hE
    have HV := Lib.hid (show leastV t = v from hv)
    clear h0 hv
    go_enter Tryz.func10, Tryz.ntmps10
    go_wp2_with fail
    obtain ⟨w1, hw⟩ : ∃ w1, w1 = w.alloc (.cells #[.int .i64 t.ser, .int .i64 t.kind, .int .i64 t.frm, .int .i64 t.till, .int .i64 t.cls, .int .i64 t.card, .int .i64 t.seat, .int .i64 t.day, .int .i64 t.days, .int .i64 t.uses, .int .i64 t.epoch] 23) := ⟨_, rfl⟩
    rw [← hw]
    have hx : TBox w1 w.heap.size t := by rw [hw]; exact TBox.new w t
    have hb : Below w.heap.size w w1 := by rw [hw]; exact below_lit w _ _
    replace HBL := Lib.hid (HBL.out.trans (hb.mono HBL.out.size))
    have X1 := Lib.hid hx
    clear hx hb hw
    obtain ⟨B1, hB⟩ : ∃ B, B = w.heap.size := ⟨_, rfl⟩
    rw [← hB] at X1 ⊢
    clear hB
    refine (pis9_any t true H0.out w1).mono ?_
    rintro e w2 ⟨rfl, hb⟩
    replace X1 := Lib.hid (X1.out.next hb)
    replace HBL := Lib.hid (HBL.out.trans (hb.mono HBL.out.size))
    clear hb
    obtain ⟨c0, c1, c2, c3, c4, c5, c6, c7, c8, c9, c10⟩ := X1.out.cells
    go_wp2_with fail
    obtain ⟨w3, hw⟩ : ∃ w3, w3 = w2.alloc (.cells #[.int .i64 t.card, .int .i64 t.seat] 3) := ⟨_, rfl⟩
    rw [← hw]
    have k0 : w3.cell? ⟨w2.heap.size, 0, none⟩ = some (.int .i64 t.card) := by rw [hw]; exact (cell_of_row _ _ 0 _ _ (0, 0) (heap_alloc_new w2 _)).trans rfl
    have k1 : w3.cell? ⟨w2.heap.size, 1, none⟩ = some (.int .i64 t.seat) := by rw [hw]; exact (cell_of_row _ _ 1 _ _ (0, 0) (heap_alloc_new w2 _)).trans rfl
    have hb : Below w2.heap.size w2 w3 := by rw [hw]; exact below_lit w2 _ _
    clear c0 c1 c2 c3 c4 c5 c6 c7 c8 c9 c10
    replace X1 := Lib.hid (X1.out.next hb)
    replace HBL := Lib.hid (HBL.out.trans (hb.mono HBL.out.size))
    clear hb hw
    refine (ptell_any t.card t.seat v HV.out _ w3 k0 k1).mono ?_
    rintro e w9 ⟨rfl, rfl⟩
    go_wp2
    go_ret2
    exact ⟨rfl, HBL.out⟩
set_option maxRecDepth 100000 in
set_option maxHeartbeats 1600000 in
theorem pfbarcode_any (t : Tk) (v : Int) (b : Bool) (hb : roomB t v = b) (w : World) : Calls Tryz.prog 11 #[.agg #[.int .i64 t.ser, .int .i64 t.kind, .int .i64 t.frm, .int .i64 t.till, .int .i64 t.cls, .int .i64 t.card, .int .i64 t.seat, .int .i64 t.day, .int .i64 t.days, .int .i64 t.uses, .int .i64 t.epoch], .int .i64 v] w fun e w' => e = .returned (.bool b) ∧ Below w.heap.size w w' := by
  have HBL := Lib.hid (Below.refl w.heap.size w)
  obtain ⟨y, hy⟩ : ∃ y, (if okT t then leastV t else 0) = y := ⟨_, rfl⟩
  obtain ⟨E, hE⟩ : ∃ E : Int, (if okT t then 0 else 1) = E := ⟨_, rfl⟩
  have HY := Lib.hid hy
  have HE := Lib.hid hE
  have hb' : ((E == 0) && (decide (y ≤ v) && decide (v ≤ 3))) = b := by
    rw [← hb, ← hy, ← hE, roomB]
    cases okT t <;> rfl
  have HB := Lib.hid hb'
  clear hb hy hE hb'
  cases h0 : (E == 0) <;> cases h1 : decide (y ≤ v) <;> cases h2 : decide (v ≤ 3)
  all_goals
    have hb := HB.out
    rw [h0, h1, h2] at hb
    subst hb
    go_enter Tryz.func11, Tryz.ntmps11
    go_wp2_with fail
    obtain ⟨w1, hw⟩ : ∃ w1, w1 = w.alloc (.cells #[.int .i64 t.ser, .int .i64 t.kind, .int .i64 t.frm, .int .i64 t.till, .int .i64 t.cls, .int .i64 t.card, .int .i64 t.seat, .int .i64 t.day, .int .i64 t.days, .int .i64 t.uses, .int .i64 t.epoch] 23) := ⟨_, rfl⟩
    rw [← hw]
    have hx : TBox w1 w.heap.size t := by rw [hw]; exact TBox.new w t
    have hb : Below w.heap.size w w1 := by rw [hw]; exact below_lit w _ _
    replace HBL := Lib.hid (HBL.out.trans (hb.mono HBL.out.size))
    have X1 := Lib.hid hx
    clear hx hb hw
    obtain ⟨B1, hB⟩ : ∃ B, B = w.heap.size := ⟨_, rfl⟩
    rw [← hB] at X1 ⊢
    clear hB
    refine (pfversion_any t y E HY.out HE.out w1).mono ?_
    rintro e w2 ⟨rfl, hb⟩
    replace X1 := Lib.hid (X1.out.next hb)
    replace HBL := Lib.hid (HBL.out.trans (hb.mono HBL.out.size))
    clear hb
    go_wp2
    go_ret
    exact ⟨rfl, HBL.out⟩
end Go.Proofs.YtaokhkbfiplfmaaGreatDoor
end
section
namespace Go.Proofs.YtaokhkbfiplfmaaGreatDoor
set_option linter.unusedVariables false
open Go.ChangeShapes Go.WideShapes Go.ChangeAt Go.RowKit

def ft0 : Tk := ⟨42, 1, 3, 20, 2, 0, 0, 10, 1, 1, 0⟩
def ft1 : Tk := ⟨42, 1, 3, 20, 2, 2, 0, 10, 1, 1, 0⟩
def ft2 : Tk := ⟨42, 1, 3, 20, 2, 2, 9, 10, 1, 1, 0⟩
def ft3 : Tk := ⟨42, 1, 3, 20, 9, 2, 9, 10, 1, 1, 0⟩
theorem tbox_set {w : World} {b j : Nat} {t u : Tk} {x : Value} (h : TBox w b t) (e : (#[.int .i64 t.ser, .int .i64 t.kind, .int .i64 t.frm, .int .i64 t.till, .int .i64 t.cls, .int .i64 t.card, .int .i64 t.seat, .int .i64 t.day, .int .i64 t.days, .int .i64 t.uses, .int .i64 t.epoch] : Array Value).setIfInBounds j x = #[.int .i64 u.ser, .int .i64 u.kind, .int .i64 u.frm, .int .i64 u.till, .int .i64 u.cls, .int .i64 u.card, .int .i64 u.seat, .int .i64 u.day, .int .i64 u.days, .int .i64 u.uses, .int .i64 u.epoch]) : TBox (w.setCell ⟨b, j, none⟩ x) b u := by
  have := heap_setCell_same w b j _ _ x h
  rw [e] at this
  exact this
set_option maxRecDepth 100000 in
set_option maxHeartbeats 1600000 in
theorem plain20_any (w : World) : Calls Tryz.prog 9 #[] w fun e w' => e = .returned (.agg #[.int .i64 ft0.ser, .int .i64 ft0.kind, .int .i64 ft0.frm, .int .i64 ft0.till, .int .i64 ft0.cls, .int .i64 ft0.card, .int .i64 ft0.seat, .int .i64 ft0.day, .int .i64 ft0.days, .int .i64 ft0.uses, .int .i64 ft0.epoch]) ∧ Below w.heap.size w w' := by
  have HBL := Lib.hid (Below.refl w.heap.size w)
  go_enter Tryz.func9, Tryz.ntmps9
  go_wp2
  exact bodyPost_ret (results_row Tryz.results9 _ _ w.heap.size _ _ (0, 0) _ rfl (heap_alloc_new w _) Tryz.underlying23 rfl infoTk) rfl ⟨rfl, below_lit w _ _⟩
set_option maxRecDepth 100000 in
set_option maxHeartbeats 1600000 in
theorem fitted_any (w : World) : Calls Tryz.prog 5 #[] w fun e w' => e = .returned (.bool true) ∧ Below w.heap.size w w' := by
  have HBL := Lib.hid (Below.refl w.heap.size w)
  go_enter Tryz.func5, Tryz.ntmps5
  go_wp2_with fail
  refine (plain20_any w).mono ?_
  rintro e w1 ⟨rfl, hb⟩
  replace HBL := Lib.hid (HBL.out.trans (hb.mono HBL.out.size))
  clear hb
  go_wp2_with fail
  obtain ⟨w2, hw⟩ : ∃ w2, w2 = w1.alloc (.cells #[.int .i64 ft0.ser, .int .i64 ft0.kind, .int .i64 ft0.frm, .int .i64 ft0.till, .int .i64 ft0.cls, .int .i64 ft0.card, .int .i64 ft0.seat, .int .i64 ft0.day, .int .i64 ft0.days, .int .i64 ft0.uses, .int .i64 ft0.epoch] 23) := ⟨_, rfl⟩
  rw [← hw]
  have hx : TBox w2 w1.heap.size ft0 := by rw [hw]; exact TBox.new w1 ft0
  have HGE := Lib.hid HBL.out.size
  have hb : Below w1.heap.size w1 w2 := by rw [hw]; exact below_lit w1 _ _
  replace HBL := Lib.hid (HBL.out.trans (hb.mono HBL.out.size))
  have X1 := Lib.hid hx
  clear hx hb hw
  obtain ⟨B1, hB⟩ : ∃ B, B = w1.heap.size := ⟨_, rfl⟩
  rw [← hB] at X1 HGE ⊢
  clear hB
  obtain ⟨c0, c1, c2, c3, c4, c5, c6, c7, c8, c9, c10⟩ := X1.out.cells
  go_wp2_with fail
  refine (pfstripe_any ft0 true (by decide) w2).mono ?_
  rintro e w3 ⟨rfl, hb⟩
  clear c0 c1 c2 c3 c4 c5 c6 c7 c8 c9 c10
  replace X1 := Lib.hid (X1.out.next hb)
  replace HBL := Lib.hid (HBL.out.trans (hb.mono HBL.out.size))
  clear hb
  obtain ⟨c0, c1, c2, c3, c4, c5, c6, c7, c8, c9, c10⟩ := X1.out.cells
  go_wp2_with fail
  refine (pfversion_any ft0 1 0 (by decide) (by decide) w3).mono ?_
  rintro e w4 ⟨rfl, hb⟩
  clear c0 c1 c2 c3 c4 c5 c6 c7 c8 c9 c10
  replace X1 := Lib.hid (X1.out.next hb)
  replace HBL := Lib.hid (HBL.out.trans (hb.mono HBL.out.size))
  clear hb
  obtain ⟨c0, c1, c2, c3, c4, c5, c6, c7, c8, c9, c10⟩ := X1.out.cells
  go_wp2_with fail
  refine (pfbarcode_any ft0 1 true (by decide) w4).mono ?_
  rintro e w5 ⟨rfl, hb⟩
  clear c0 c1 c2 c3 c4 c5 c6 c7 c8 c9 c10
  replace X1 := Lib.hid (X1.out.next hb)
  replace HBL := Lib.hid (HBL.out.trans (hb.mono HBL.out.size))
  clear hb
  obtain ⟨c0, c1, c2, c3, c4, c5, c6, c7, c8, c9, c10⟩ := X1.out.cells
  have cf := X1.out.frozen 5
  go_wp2_with fail
  have hx := tbox_set (j := 5) (x := .int .i64 2) (u := ft1) X1.out rfl
  have hb := HBL.out.setCell (p := ⟨B1, 5, none⟩) HGE.out (.int .i64 2)
  clear c0 c1 c2 c3 c4 c5 c6 c7 c8 c9 c10 cf
  clear X1 HBL
  obtain ⟨w6, hw⟩ : ∃ w6, w6 = w5.setCell ⟨B1, 5, none⟩ (.int .i64 2) := ⟨_, rfl⟩
  rw [← hw] at hx hb ⊢
  clear hw
  have X1 := Lib.hid hx
  have HBL := Lib.hid hb
  clear hx hb
  obtain ⟨c0, c1, c2, c3, c4, c5, c6, c7, c8, c9, c10⟩ := X1.out.cells
  go_wp2_with fail
  refine (pfversion_any ft1 2 0 (by decide) (by decide) w6).mono ?_
  rintro e w7 ⟨rfl, hb⟩
  clear c0 c1 c2 c3 c4 c5 c6 c7 c8 c9 c10
  replace X1 := Lib.hid (X1.out.next hb)
  replace HBL := Lib.hid (HBL.out.trans (hb.mono HBL.out.size))
  clear hb
  obtain ⟨c0, c1, c2, c3, c4, c5, c6, c7, c8, c9, c10⟩ := X1.out.cells
  go_wp2_with fail
  refine (pfbarcode_any ft1 1 false (by decide) w7).mono ?_
  rintro e w8 ⟨rfl, hb⟩
  clear c0 c1 c2 c3 c4 c5 c6 c7 c8 c9 c10
  replace X1 := Lib.hid (X1.out.next hb)
  replace HBL := Lib.hid (HBL.out.trans (hb.mono HBL.out.size))
  clear hb
  obtain ⟨c0, c1, c2, c3, c4, c5, c6, c7, c8, c9, c10⟩ := X1.out.cells
  have cf := X1.out.frozen 6
  go_wp2_with fail
  have hx := tbox_set (j := 6) (x := .int .i64 9) (u := ft2) X1.out rfl
  have hb := HBL.out.setCell (p := ⟨B1, 6, none⟩) HGE.out (.int .i64 9)
  clear c0 c1 c2 c3 c4 c5 c6 c7 c8 c9 c10 cf
  clear X1 HBL
  obtain ⟨w9, hw⟩ : ∃ w9, w9 = w8.setCell ⟨B1, 6, none⟩ (.int .i64 9) := ⟨_, rfl⟩
  rw [← hw] at hx hb ⊢
  clear hw
  have X1 := Lib.hid hx
  have HBL := Lib.hid hb
  clear hx hb
  obtain ⟨c0, c1, c2, c3, c4, c5, c6, c7, c8, c9, c10⟩ := X1.out.cells
  go_wp2_with fail
  refine (pfversion_any ft2 3 0 (by decide) (by decide) w9).mono ?_
  rintro e w10 ⟨rfl, hb⟩
  clear c0 c1 c2 c3 c4 c5 c6 c7 c8 c9 c10
  replace X1 := Lib.hid (X1.out.next hb)
  replace HBL := Lib.hid (HBL.out.trans (hb.mono HBL.out.size))
  clear hb
  obtain ⟨c0, c1, c2, c3, c4, c5, c6, c7, c8, c9, c10⟩ := X1.out.cells
  go_wp2_with fail
  refine (pfstripe_any ft2 false (by decide) w10).mono ?_
  rintro e w11 ⟨rfl, hb⟩
  clear c0 c1 c2 c3 c4 c5 c6 c7 c8 c9 c10
  replace X1 := Lib.hid (X1.out.next hb)
  replace HBL := Lib.hid (HBL.out.trans (hb.mono HBL.out.size))
  clear hb
  obtain ⟨c0, c1, c2, c3, c4, c5, c6, c7, c8, c9, c10⟩ := X1.out.cells
  have cf := X1.out.frozen 4
  go_wp2_with fail
  have hx := tbox_set (j := 4) (x := .int .i64 9) (u := ft3) X1.out rfl
  have hb := HBL.out.setCell (p := ⟨B1, 4, none⟩) HGE.out (.int .i64 9)
  clear c0 c1 c2 c3 c4 c5 c6 c7 c8 c9 c10 cf
  clear X1 HBL
  obtain ⟨w12, hw⟩ : ∃ w12, w12 = w11.setCell ⟨B1, 4, none⟩ (.int .i64 9) := ⟨_, rfl⟩
  rw [← hw] at hx hb ⊢
  clear hw
  have X1 := Lib.hid hx
  have HBL := Lib.hid hb
  clear hx hb
  obtain ⟨c0, c1, c2, c3, c4, c5, c6, c7, c8, c9, c10⟩ := X1.out.cells
  go_wp2_with fail
  refine (pfversion_any ft3 0 1 (by decide) (by decide) w12).mono ?_
  rintro e w13 ⟨rfl, hb⟩
  clear c0 c1 c2 c3 c4 c5 c6 c7 c8 c9 c10
  replace X1 := Lib.hid (X1.out.next hb)
  replace HBL := Lib.hid (HBL.out.trans (hb.mono HBL.out.size))
  clear hb
  go_wp2
  go_ret
  exact ⟨rfl, HBL.out⟩
end Go.Proofs.YtaokhkbfiplfmaaGreatDoor
end
section
namespace Go.Proofs.YtaokhkbfiplfmaaGreatDoor
set_option linter.unusedVariables false
open Go.ChangeShapes Go.WideShapes Go.ChangeAt Go.RowKit

theorem Tryz.own : ownKnob Tryz.prog.godebug = none := by kernel_rfl
theorem Tryz.laidOut : laidOutB Tryz.prog = true := by kernel_rfl
theorem Tryz.cellsU8 : Tryz.prog.cellsOf 5 = 1 := by kernel_rfl
theorem Tryz.cellsU32 : Tryz.prog.cellsOf 107 = 1 := by kernel_rfl

section
variable {H : Type} {enc : TypeId × Value → H} {P : Program}

/-- Arguments read, behind a call that turned nothing old, as they read before it. -/
theorem trodAll_kept (hl : laidOutB P = true) {W W' : World} (hb : Below W.heap.size W W') : ∀ {ts : List TypeId} {vs : List Value} {ds : List (DataW H)} {ps : List MemPlace},
    ts.all (fun t => P.readableRec t && decide (t < P.types.size)) = true → (∀ x ∈ ps, x.block < W.heap.size) →
    DataW.TrodAll enc P W 0 (fun _ => true) true ts vs ds ps → DataW.TrodAll enc P W' 0 (fun b => decide (b < W.heap.size)) true ts vs ds ps
  | [], [], [], _, _, _, h => h
  | [], _ :: _, _, _, _, _, h => h.elim
  | [], [], _ :: _, _, _, _, h => h.elim
  | _ :: _, [], _, _, _, _, h => h.elim
  | _ :: _, _ :: _, [], _, _, _, h => h.elim
  | t :: ts, v :: vs, d :: ds, ps, hr, hlt, h => by
    obtain ⟨p, q, hp, hq, rfl⟩ := h
    simp only [List.all_cons, Bool.and_eq_true, decide_eq_true_eq] at hr
    exact ⟨p, q, Below.trod hl hr.1.1 hr.1.2 hp hb (fun x hx => hlt x (by simp [hx])), trodAll_kept hl hb (by simpa using hr.2) (fun x hx => hlt x (by simp [hx])) hq, rfl⟩

/-- A law's last step: it answered true, and nothing old has turned. -/
theorem law_post (hl : laidOutB P = true) {fn : Func} {s : ChangeSpec} {W W' : World} {args : Array Value} {ds gs : List (DataW H)} {before : List MemPlace} {b : TypeId} (hb4 : P.underlying b = some .bool)
    (hW : DataW.Whole enc P fn.params.toList s.vars false W args.toList ds gs before) (hv : s.vars = []) (hr : fn.resultTypes = #[b])
    (hp : fn.params.toList.all (fun t => P.readableRec t && decide (t < P.types.size)) = true)
    (hf : s.fn H ds = { results := [.lit (.bool true)], args := ds }) (hb : Below W.heap.size W W') :
    s.post enc P fn false true false false W args (.bool true) W' := by
  have hlt := hW.lt
  have hW' := hW
  obtain ⟨p, q, hA, hV, rfl, _, _⟩ := hW'
  have hV' := hV
  rw [hv] at hV'
  obtain ⟨rfl, rfl⟩ := trodVars_none hV'
  refine ⟨ds, [], p ++ [], [], p, [], hW, ?_, ?_, ?_, hb.frame _, fun h => by cases h⟩
  · rw [List.append_nil, hf, hr]
    exact trodAll_cons_mk (shut_bool hb4 _) trodAll_mk0
  · rw [List.append_nil, hf]
    exact trodAll_kept hl hb hp (fun x hx => by simpa using hlt x (by simp [hx])) hA
  · rw [List.append_nil, hf, hv]
    rfl

theorem lt_of_cell {w : World} {a : Addr} {u : Value} (h : w.cell? a = some u) : a.block < w.heap.size := by
  rcases Nat.lt_or_ge a.block w.heap.size with hlt | hge
  · exact hlt
  · rw [World.cell?, Array.getElem?_eq_none hge] at h
    simp at h

end

theorem wf_u8 (z : Int) (h : (Lit.int .u8 z).wf = true) : 0 ≤ z ∧ z < (256 : Nat) := by
  simp [Lit.wf, IntKind.min, IntKind.max, IntKind.signed, IntKind.bits] at h; omega
theorem wf_i64 (z : Int) (h : (Lit.int .i64 z).wf = true) : -9223372036854775808 ≤ z ∧ z ≤ 9223372036854775807 := by
  simp [Lit.wf, IntKind.min, IntKind.max, IntKind.signed, IntKind.bits] at h; omega
end Go.Proofs.YtaokhkbfiplfmaaGreatDoor
end
section
namespace Go.Proofs.YtaokhkbfiplfmaaGreatDoor
set_option linter.unusedVariables false
open Go.ChangeShapes Go.WideShapes Go.ChangeAt Go.RowKit

theorem infoInt : (Tryz.prog.info? 3).map (fun i => (i.zero, i.size, i.bytes)) = some (some (.int .i64 0), 1, 8) := by kernel_rfl
def I64 (l : List Int) : List Value := l.map fun x : Int => Value.int .i64 x
theorem I64_append (a b : List Int) : I64 (a ++ b) = I64 a ++ I64 b := by simp [I64]
theorem I64_at {l : List Int} {k : Nat} {x : Int} (h : l[k]? = some x) : (I64 l)[k]? = some (.int .i64 x) := by simp [I64, h]
theorem I64_one (l : List Int) : ∀ u ∈ I64 l, u.oneCell' = true := by
  intro u hu
  simp only [I64, List.mem_map] at hu
  obtain ⟨x, _, rfl⟩ := hu
  rfl
/-- A slice value that reads as ints. -/
structure Zs (w : World) (B : Nat) (l : List Int) (A : Option Addr) (c : Nat) : Prop where
  rd : Rd w B A (I64 l)
  nil : A = none → c = 0
  len : l.length ≤ c
  cap : c ≤ 9223372036854775807
theorem Zs.next {w w' : World} {l : List Int} {A : Option Addr} {c : Nat} (h : Zs w w.heap.size l A c) (hb : Below w.heap.size w w') : Zs w' w'.heap.size l A c := ⟨h.rd.next hb, h.nil, h.len, h.cap⟩
theorem Zs.drew {w : World} {l : List Int} {A : Option Addr} {c : Nat} (h : Zs w w.heap.size l A c) (q : Nat) : Zs (w.drewN q) (w.drewN q).heap.size l A c := h.next (below_drewN (Below.refl _ _) q)
theorem zs_of_own {w : World} {base n : Nat} {v : Value} {l : List Int} (h : w.ownsRow base 3 1 v n (I64 l)) : ∃ A c, v = .slice A n c ∧ n = l.length ∧ Zs w w.heap.size l A c := by
  have hn : l.length = n := by have := h.1; simpa [I64] using this
  rcases h.2 with ⟨rfl, h0⟩ | ⟨g, cap, cur, rfl, _, _, h2, h3, _⟩
  · subst h0
    have : l = [] := List.eq_nil_of_length_eq_zero hn
    subst this
    exact ⟨none, 0, rfl, rfl, ⟨by intro k u hu; simp [I64] at hu, fun _ => rfl, by simp, by omega⟩⟩
  · unfold maxLen at h3
    exact ⟨_, cap, rfl, hn.symm, ⟨Rd.of_own h, by simp, by omega, h3⟩⟩
theorem Zs.at {w : World} {B : Nat} {l : List Int} {A : Option Addr} {c k : Nat} {x : Int} (h : Zs w B l A c) (hx : l[k]? = some x) : ∃ ad, A = some ad ∧ ad.block < B ∧ w.cell? (ad.add k) = some (.int .i64 x) := h.rd k _ (I64_at hx)
section
variable {H : Type} {enc : TypeId × Value → H} {P : Program}
end
end Go.Proofs.YtaokhkbfiplfmaaGreatDoor
end
section
namespace Go.Proofs.YtaokhkbfiplfmaaGreatDoor
set_option linter.unusedVariables false
open Go.ChangeShapes Go.WideShapes Go.ChangeAt Go.RowKit

/-- A reading in its block. -/
def RBox (w : World) (b : Nat) (r : Rg) : Prop := w.heap[b]? = some (.cells #[.int .i64 r.t.ser, .int .i64 r.t.kind, .int .i64 r.t.frm, .int .i64 r.t.till, .int .i64 r.t.cls, .int .i64 r.t.card, .int .i64 r.t.seat, .int .i64 r.t.day, .int .i64 r.t.days, .int .i64 r.t.uses, .int .i64 r.t.epoch, .int .i64 r.key, .int .i64 r.left, .int .i64 r.inn, .int .i64 r.ver] 36 (0, 0))
theorem RBox.lt {w : World} {b : Nat} {r : Rg} (h : RBox w b r) : b < w.heap.size := (Array.getElem?_eq_some_iff.1 h).1
theorem RBox.next {w w' : World} {b : Nat} {r : Rg} (h : RBox w b r) (hb : Below w.heap.size w w') : RBox w' b r := (hb.block _ h.lt).trans h
theorem RBox.below {w w' : World} {b B : Nat} {r : Rg} (h : RBox w b r) (hlt : b < B) (hb : Below B w w') : RBox w' b r := (hb.block _ hlt).trans h
theorem RBox.cells {w : World} {b : Nat} {r : Rg} (h : RBox w b r) : w.cell? ⟨b, 0, none⟩ = some (.int .i64 r.t.ser) ∧ w.cell? ⟨b, 1, none⟩ = some (.int .i64 r.t.kind) ∧ w.cell? ⟨b, 2, none⟩ = some (.int .i64 r.t.frm) ∧ w.cell? ⟨b, 3, none⟩ = some (.int .i64 r.t.till) ∧ w.cell? ⟨b, 4, none⟩ = some (.int .i64 r.t.cls) ∧ w.cell? ⟨b, 5, none⟩ = some (.int .i64 r.t.card) ∧ w.cell? ⟨b, 6, none⟩ = some (.int .i64 r.t.seat) ∧ w.cell? ⟨b, 7, none⟩ = some (.int .i64 r.t.day) ∧ w.cell? ⟨b, 8, none⟩ = some (.int .i64 r.t.days) ∧ w.cell? ⟨b, 9, none⟩ = some (.int .i64 r.t.uses) ∧ w.cell? ⟨b, 10, none⟩ = some (.int .i64 r.t.epoch) ∧ w.cell? ⟨b, 11, none⟩ = some (.int .i64 r.key) ∧ w.cell? ⟨b, 12, none⟩ = some (.int .i64 r.left) ∧ w.cell? ⟨b, 13, none⟩ = some (.int .i64 r.inn) ∧ w.cell? ⟨b, 14, none⟩ = some (.int .i64 r.ver) :=
  ⟨by rw [cell_of_row w b 0 _ _ (0, 0) h]; rfl, by rw [cell_of_row w b 1 _ _ (0, 0) h]; rfl, by rw [cell_of_row w b 2 _ _ (0, 0) h]; rfl, by rw [cell_of_row w b 3 _ _ (0, 0) h]; rfl, by rw [cell_of_row w b 4 _ _ (0, 0) h]; rfl, by rw [cell_of_row w b 5 _ _ (0, 0) h]; rfl, by rw [cell_of_row w b 6 _ _ (0, 0) h]; rfl, by rw [cell_of_row w b 7 _ _ (0, 0) h]; rfl, by rw [cell_of_row w b 8 _ _ (0, 0) h]; rfl, by rw [cell_of_row w b 9 _ _ (0, 0) h]; rfl, by rw [cell_of_row w b 10 _ _ (0, 0) h]; rfl, by rw [cell_of_row w b 11 _ _ (0, 0) h]; rfl, by rw [cell_of_row w b 12 _ _ (0, 0) h]; rfl, by rw [cell_of_row w b 13 _ _ (0, 0) h]; rfl, by rw [cell_of_row w b 14 _ _ (0, 0) h]; rfl⟩
theorem RBox.frozen {w : World} {b : Nat} {r : Rg} (h : RBox w b r) (j : Nat) : w.frozen? ⟨b, j, none⟩ = false := frozen_of_row w b j _ _ h
theorem RBox.new (w : World) (r : Rg) : RBox (w.alloc (.cells #[.int .i64 r.t.ser, .int .i64 r.t.kind, .int .i64 r.t.frm, .int .i64 r.t.till, .int .i64 r.t.cls, .int .i64 r.t.card, .int .i64 r.t.seat, .int .i64 r.t.day, .int .i64 r.t.days, .int .i64 r.t.uses, .int .i64 r.t.epoch, .int .i64 r.key, .int .i64 r.left, .int .i64 r.inn, .int .i64 r.ver] 36)) w.heap.size r := heap_alloc_new w _
theorem RBox.alloc {w : World} {b : Nat} {r : Rg} (h : RBox w b r) (o : Obj) : RBox (w.alloc o) b r := (heap_alloc_old w o h.lt).trans h
theorem RBox.made {w1 w2 : World} {cc : Array Value} {r : Rg} (h : w2 = (w1.alloc (.cells cc 36)).setRow w1.heap.size #[.int .i64 r.t.ser, .int .i64 r.t.kind, .int .i64 r.t.frm, .int .i64 r.t.till, .int .i64 r.t.cls, .int .i64 r.t.card, .int .i64 r.t.seat, .int .i64 r.t.day, .int .i64 r.t.days, .int .i64 r.t.uses, .int .i64 r.t.epoch, .int .i64 r.key, .int .i64 r.left, .int .i64 r.inn, .int .i64 r.ver]) : RBox w2 w1.heap.size r ∧ Below w1.heap.size w1 w2 := by
  subst h
  exact ⟨setRow_heap _ _ _ _ _ _ (heap_alloc_new w1 _), below_setRow ((Below.refl _ _).alloc (Nat.le_refl _) _) (Nat.le_refl _) _⟩
/-- A journey in its block. -/
def JBox (w : World) (b : Nat) (l i : Int) : Prop := w.heap[b]? = some (.cells #[.int .i64 l, .int .i64 i] 25 (0, 0))
theorem JBox.lt {w : World} {b : Nat} {l i : Int} (h : JBox w b l i) : b < w.heap.size := (Array.getElem?_eq_some_iff.1 h).1
theorem JBox.next {w w' : World} {b : Nat} {l i : Int} (h : JBox w b l i) (hb : Below w.heap.size w w') : JBox w' b l i := (hb.block _ h.lt).trans h
theorem JBox.below {w w' : World} {b B : Nat} {l i : Int} (h : JBox w b l i) (hlt : b < B) (hb : Below B w w') : JBox w' b l i := (hb.block _ hlt).trans h
theorem JBox.cells {w : World} {b : Nat} {l i : Int} (h : JBox w b l i) : w.cell? ⟨b, 0, none⟩ = some (.int .i64 l) ∧ w.cell? ⟨b, 1, none⟩ = some (.int .i64 i) :=
  ⟨by rw [cell_of_row w b 0 _ _ (0, 0) h]; rfl, by rw [cell_of_row w b 1 _ _ (0, 0) h]; rfl⟩
theorem JBox.frozen {w : World} {b : Nat} {l i : Int} (h : JBox w b l i) (j : Nat) : w.frozen? ⟨b, j, none⟩ = false := frozen_of_row w b j _ _ h
theorem JBox.new (w : World) (l i : Int) : JBox (w.alloc (.cells #[.int .i64 l, .int .i64 i] 25)) w.heap.size l i := heap_alloc_new w _
theorem JBox.alloc {w : World} {b : Nat} {l i : Int} (h : JBox w b l i) (o : Obj) : JBox (w.alloc o) b l i := (heap_alloc_old w o h.lt).trans h
theorem JBox.made {w1 w2 : World} {cc : Array Value} {l i : Int} (h : w2 = (w1.alloc (.cells cc 25)).setRow w1.heap.size #[.int .i64 l, .int .i64 i]) : JBox w2 w1.heap.size l i ∧ Below w1.heap.size w1 w2 := by
  subst h
  exact ⟨setRow_heap _ _ _ _ _ _ (heap_alloc_new w1 _), below_setRow ((Below.refl _ _).alloc (Nat.le_refl _) _) (Nat.le_refl _) _⟩
end Go.Proofs.YtaokhkbfiplfmaaGreatDoor
end
section
namespace Go.Proofs.YtaokhkbfiplfmaaGreatDoor
set_option linter.unusedVariables false
open Go.ChangeShapes Go.WideShapes Go.ChangeAt Go.RowKit

theorem infoFd : (Tryz.prog.info? 57).map (fun i => (i.zero, i.size, i.bytes)) = some (some (.agg #[.pointer none, .int .i64 0]), 2, 16) := by kernel_rfl
/-- A reading at work in its block. -/
def SBox (w : World) (b : Nat) (r : Rg) : Prop := w.heap[b]? = some (.cells #[.int .i64 r.t.ser, .int .i64 r.t.kind, .int .i64 r.t.frm, .int .i64 r.t.till, .int .i64 r.t.cls, .int .i64 r.t.card, .int .i64 r.t.seat, .int .i64 r.t.day, .int .i64 r.t.days, .int .i64 r.t.uses, .int .i64 r.t.epoch, .int .i64 r.key, .int .i64 r.left, .int .i64 r.inn, .int .i64 r.ver] 51 (0, 0))
theorem SBox.lt {w : World} {b : Nat} {r : Rg} (h : SBox w b r) : b < w.heap.size := (Array.getElem?_eq_some_iff.1 h).1
theorem SBox.next {w w' : World} {b : Nat} {r : Rg} (h : SBox w b r) (hb : Below w.heap.size w w') : SBox w' b r := (hb.block _ h.lt).trans h
theorem SBox.below {w w' : World} {b B : Nat} {r : Rg} (h : SBox w b r) (hlt : b < B) (hb : Below B w w') : SBox w' b r := (hb.block _ hlt).trans h
theorem SBox.cells {w : World} {b : Nat} {r : Rg} (h : SBox w b r) : w.cell? ⟨b, 0, none⟩ = some (.int .i64 r.t.ser) ∧ w.cell? ⟨b, 1, none⟩ = some (.int .i64 r.t.kind) ∧ w.cell? ⟨b, 2, none⟩ = some (.int .i64 r.t.frm) ∧ w.cell? ⟨b, 3, none⟩ = some (.int .i64 r.t.till) ∧ w.cell? ⟨b, 4, none⟩ = some (.int .i64 r.t.cls) ∧ w.cell? ⟨b, 5, none⟩ = some (.int .i64 r.t.card) ∧ w.cell? ⟨b, 6, none⟩ = some (.int .i64 r.t.seat) ∧ w.cell? ⟨b, 7, none⟩ = some (.int .i64 r.t.day) ∧ w.cell? ⟨b, 8, none⟩ = some (.int .i64 r.t.days) ∧ w.cell? ⟨b, 9, none⟩ = some (.int .i64 r.t.uses) ∧ w.cell? ⟨b, 10, none⟩ = some (.int .i64 r.t.epoch) ∧ w.cell? ⟨b, 11, none⟩ = some (.int .i64 r.key) ∧ w.cell? ⟨b, 12, none⟩ = some (.int .i64 r.left) ∧ w.cell? ⟨b, 13, none⟩ = some (.int .i64 r.inn) ∧ w.cell? ⟨b, 14, none⟩ = some (.int .i64 r.ver) :=
  ⟨by rw [cell_of_row w b 0 _ _ (0, 0) h]; rfl, by rw [cell_of_row w b 1 _ _ (0, 0) h]; rfl, by rw [cell_of_row w b 2 _ _ (0, 0) h]; rfl, by rw [cell_of_row w b 3 _ _ (0, 0) h]; rfl, by rw [cell_of_row w b 4 _ _ (0, 0) h]; rfl, by rw [cell_of_row w b 5 _ _ (0, 0) h]; rfl, by rw [cell_of_row w b 6 _ _ (0, 0) h]; rfl, by rw [cell_of_row w b 7 _ _ (0, 0) h]; rfl, by rw [cell_of_row w b 8 _ _ (0, 0) h]; rfl, by rw [cell_of_row w b 9 _ _ (0, 0) h]; rfl, by rw [cell_of_row w b 10 _ _ (0, 0) h]; rfl, by rw [cell_of_row w b 11 _ _ (0, 0) h]; rfl, by rw [cell_of_row w b 12 _ _ (0, 0) h]; rfl, by rw [cell_of_row w b 13 _ _ (0, 0) h]; rfl, by rw [cell_of_row w b 14 _ _ (0, 0) h]; rfl⟩
theorem SBox.frozen {w : World} {b : Nat} {r : Rg} (h : SBox w b r) (j : Nat) : w.frozen? ⟨b, j, none⟩ = false := frozen_of_row w b j _ _ h
theorem SBox.new (w : World) (r : Rg) : SBox (w.alloc (.cells #[.int .i64 r.t.ser, .int .i64 r.t.kind, .int .i64 r.t.frm, .int .i64 r.t.till, .int .i64 r.t.cls, .int .i64 r.t.card, .int .i64 r.t.seat, .int .i64 r.t.day, .int .i64 r.t.days, .int .i64 r.t.uses, .int .i64 r.t.epoch, .int .i64 r.key, .int .i64 r.left, .int .i64 r.inn, .int .i64 r.ver] 51)) w.heap.size r := heap_alloc_new w _
theorem SBox.alloc {w : World} {b : Nat} {r : Rg} (h : SBox w b r) (o : Obj) : SBox (w.alloc o) b r := (heap_alloc_old w o h.lt).trans h
theorem SBox.made {w1 w2 : World} {cc : Array Value} {r : Rg} (h : w2 = (w1.alloc (.cells cc 51)).setRow w1.heap.size #[.int .i64 r.t.ser, .int .i64 r.t.kind, .int .i64 r.t.frm, .int .i64 r.t.till, .int .i64 r.t.cls, .int .i64 r.t.card, .int .i64 r.t.seat, .int .i64 r.t.day, .int .i64 r.t.days, .int .i64 r.t.uses, .int .i64 r.t.epoch, .int .i64 r.key, .int .i64 r.left, .int .i64 r.inn, .int .i64 r.ver]) : SBox w2 w1.heap.size r ∧ Below w1.heap.size w1 w2 := by
  subst h
  exact ⟨setRow_heap _ _ _ _ _ _ (heap_alloc_new w1 _), below_setRow ((Below.refl _ _).alloc (Nat.le_refl _) _) (Nat.le_refl _) _⟩
/-- What a slice of fields reads as: where each number lies, and its width. -/
def FL (X : Nat) (l : List (Nat × Int)) : List Value := l.flatMap fun p => [.pointer (some ⟨X, p.1, none⟩), .int .i64 p.2]
theorem FL_append (X : Nat) (a b : List (Nat × Int)) : FL X (a ++ b) = FL X a ++ FL X b := by simp [FL]
theorem FL_len (X : Nat) : ∀ (l : List (Nat × Int)), (FL X l).length = l.length * 2
  | [] => rfl
  | p :: l => by rw [FL, List.flatMap_cons, List.length_append, ← FL, FL_len X l, List.length_cons]; simp; omega
theorem FL_one (X : Nat) (l : List (Nat × Int)) : ∀ u ∈ FL X l, u.oneCell' = true := by
  intro u hu
  simp only [FL, List.mem_flatMap] at hu
  obtain ⟨p, _, hp⟩ := hu
  simp at hp
  rcases hp with rfl | rfl <;> rfl
theorem FL_at (X : Nat) : ∀ (l : List (Nat × Int)) (k : Nat) (p : Nat × Int), l[k]? = some p → (FL X l)[k * 2]? = some (.pointer (some ⟨X, p.1, none⟩)) ∧ (FL X l)[k * 2 + 1]? = some (.int .i64 p.2)
  | [], k, p, h => by simp at h
  | q :: l, 0, p, h => by
    simp at h; subst h
    exact ⟨rfl, rfl⟩
  | q :: l, k + 1, p, h => by
    have := FL_at X l k p (by simpa using h)
    rw [FL, List.flatMap_cons, ← FL, show (k + 1) * 2 = k * 2 + 1 + 1 by omega]
    exact this
def begF : List (Nat × Int) := [(1, 1), (0, 7), (4, 1), (5, 1), (7, 5), (8, 3), (10, 1)]
def zonF : List (Nat × Int) := [(2, 1), (3, 1)]
def staF : List (Nat × Int) := [(2, 2), (3, 2)]
def useF : List (Nat × Int) := [(9, 2)]
def endF : List (Nat × Int) := [(12, 2), (13, 2), (11, 2)]
/-- The parts of a stripe of that kind; its fields. -/
def partsL (k : Int) : List (List (Nat × Int)) := if k = 1 ∨ k = 2 then [begF, staF, endF] else if k = 3 then [begF, zonF, endF] else if k = 4 then [begF, staF, useF, endF] else []
def fieldsL (k : Int) : List (Nat × Int) := (partsL k).flatten
theorem fieldsL_wid (k : Int) : (fieldsL k).map (·.2) = widL k := by
  unfold fieldsL partsL widL widF
  by_cases h1 : k = 1 ∨ k = 2
  · rw [if_pos h1, if_pos (by omega), if_neg (by omega), if_neg (by omega)]; rfl
  · by_cases h3 : k = 3
    · rw [if_neg h1, if_pos h3, if_pos (by omega), if_pos h3]; rfl
    · by_cases h4 : k = 4
      · rw [if_neg h1, if_neg h3, if_pos h4, if_pos (by omega), if_neg h3, if_pos h4]; rfl
      · rw [if_neg h1, if_neg h3, if_neg h4, if_neg (by omega)]; rfl
theorem fieldsL_len (k : Int) : (fieldsL k).length = (widL k).length := by rw [← fieldsL_wid, List.length_map]
theorem widL_le (k : Int) : (widL k).length ≤ 13 := by
  by_cases h : 1 ≤ k ∧ k ≤ 4
  · rw [widL_len h]; split <;> omega
  · rw [widL, if_neg h]; simp
end Go.Proofs.YtaokhkbfiplfmaaGreatDoor
end
section
namespace Go.Proofs.YtaokhkbfiplfmaaGreatDoor
set_option linter.unusedVariables false
open Go.ChangeShapes Go.WideShapes Go.ChangeAt Go.RowKit

theorem below_lit' (w : World) (cs : Array Value) (t : TypeId) : Below w.heap.size w (w.drew.alloc (.cells cs t)) := (show Below w.heap.size w w.drew from (below_drewN (Below.refl _ _) 1)).alloc (Nat.le_refl _) _
set_option maxRecDepth 100000 in
set_option maxHeartbeats 1600000 in
theorem fuses_any (X : Nat) (w : World) : Calls Tryz.prog 48 #[.pointer (some ⟨X, 0, none⟩)] w fun e w' => ∃ A, e = .returned (.slice (some A) 1 1) ∧ Rd w' w'.heap.size (some A) (FL X useF) ∧ Below w.heap.size w w' := by
  go_enter Tryz.func48, Tryz.ntmps48
  go_wp2
  all_goals go_ret
  all_goals exact ⟨_, rfl, rd_lit _ _ _, below_lit _ _ _⟩
set_option maxRecDepth 100000 in
set_option maxHeartbeats 1600000 in
theorem fzones_any (X : Nat) (w : World) : Calls Tryz.prog 47 #[.pointer (some ⟨X, 0, none⟩)] w fun e w' => ∃ A, e = .returned (.slice (some A) 2 2) ∧ Rd w' w'.heap.size (some A) (FL X zonF) ∧ Below w.heap.size w w' := by
  go_enter Tryz.func47, Tryz.ntmps47
  go_wp2
  go_region
  all_goals go_wp2
  all_goals go_ret
  all_goals exact ⟨_, rfl, rd_lit _ _ _, below_lit' _ _ _⟩
set_option maxRecDepth 100000 in
set_option maxHeartbeats 1600000 in
theorem fstations_any (X : Nat) (w : World) : Calls Tryz.prog 45 #[.pointer (some ⟨X, 0, none⟩)] w fun e w' => ∃ A, e = .returned (.slice (some A) 2 2) ∧ Rd w' w'.heap.size (some A) (FL X staF) ∧ Below w.heap.size w w' := by
  go_enter Tryz.func45, Tryz.ntmps45
  go_wp2
  go_region
  all_goals go_wp2
  all_goals go_ret
  all_goals exact ⟨_, rfl, rd_lit _ _ _, below_lit' _ _ _⟩
set_option maxRecDepth 100000 in
set_option maxHeartbeats 1600000 in
theorem fend_any (X : Nat) (w : World) : Calls Tryz.prog 46 #[.pointer (some ⟨X, 0, none⟩)] w fun e w' => ∃ A, e = .returned (.slice (some A) 3 3) ∧ Rd w' w'.heap.size (some A) (FL X endF) ∧ Below w.heap.size w w' := by
  go_enter Tryz.func46, Tryz.ntmps46
  go_wp2
  go_region
  all_goals go_wp2
  all_goals go_ret
  all_goals exact ⟨_, rfl, rd_lit _ _ _, below_lit' _ _ _⟩
set_option maxRecDepth 100000 in
set_option maxHeartbeats 1600000 in
theorem fbeginning_any (X : Nat) (w : World) : Calls Tryz.prog 44 #[.pointer (some ⟨X, 0, none⟩)] w fun e w' => ∃ A, e = .returned (.slice (some A) 7 7) ∧ Rd w' w'.heap.size (some A) (FL X begF) ∧ Below w.heap.size w w' := by
  go_enter Tryz.func44, Tryz.ntmps44
  go_wp2
  go_region
  all_goals go_wp2
  all_goals go_ret
  all_goals exact ⟨_, rfl, rd_lit _ _ _, below_lit' _ _ _⟩
end Go.Proofs.YtaokhkbfiplfmaaGreatDoor
end
section
namespace Go.Proofs.YtaokhkbfiplfmaaGreatDoor
set_option linter.unusedVariables false
open Go.ChangeShapes Go.WideShapes Go.ChangeAt Go.RowKit

/-- The methods that tell the parts of a stripe of that kind. -/
def partsV (k : Int) : List Value := if k = 1 ∨ k = 2 then [.func (.func 44) #[] #[], .func (.func 45) #[] #[], .func (.func 46) #[] #[]] else if k = 3 then [.func (.func 44) #[] #[], .func (.func 47) #[] #[], .func (.func 46) #[] #[]] else if k = 4 then [.func (.func 44) #[] #[], .func (.func 45) #[] #[], .func (.func 48) #[] #[], .func (.func 46) #[] #[]] else []
theorem partsV_len (k : Int) : (partsV k).length = (partsL k).length := by
  unfold partsV partsL
  by_cases h1 : k = 1 ∨ k = 2
  · rw [if_pos h1, if_pos h1]; rfl
  · by_cases h3 : k = 3
    · rw [if_neg h1, if_neg h1, if_pos h3, if_pos h3]; rfl
    · by_cases h4 : k = 4
      · rw [if_neg h1, if_neg h1, if_neg h3, if_neg h3, if_pos h4, if_pos h4]; rfl
      · rw [if_neg h1, if_neg h1, if_neg h3, if_neg h3, if_neg h4, if_neg h4]; rfl
def PartOK (v : Value) (l : List (Nat × Int)) : Prop := ∃ K, v = .func (.func K) #[] #[] ∧ l.length ≤ 7 ∧ (∀ args w, (callFunc K args).run Tryz.prog w = .ok (.enter K args) w) ∧ ∀ (X : Nat) (w : World), Calls Tryz.prog K #[.pointer (some ⟨X, 0, none⟩)] w fun e w' => ∃ A, e = .returned (.slice (some A) l.length l.length) ∧ Rd w' w'.heap.size (some A) (FL X l) ∧ Below w.heap.size w w'
theorem ok_begF : PartOK (.func (.func 44) #[] #[]) begF := ⟨_, rfl, by decide, enters_of Tryz.func44 (by kernel_rfl) rfl, fun X w => fbeginning_any X w⟩
theorem ok_staF : PartOK (.func (.func 45) #[] #[]) staF := ⟨_, rfl, by decide, enters_of Tryz.func45 (by kernel_rfl) rfl, fun X w => fstations_any X w⟩
theorem ok_zonF : PartOK (.func (.func 47) #[] #[]) zonF := ⟨_, rfl, by decide, enters_of Tryz.func47 (by kernel_rfl) rfl, fun X w => fzones_any X w⟩
theorem ok_useF : PartOK (.func (.func 48) #[] #[]) useF := ⟨_, rfl, by decide, enters_of Tryz.func48 (by kernel_rfl) rfl, fun X w => fuses_any X w⟩
theorem ok_endF : PartOK (.func (.func 46) #[] #[]) endF := ⟨_, rfl, by decide, enters_of Tryz.func46 (by kernel_rfl) rfl, fun X w => fend_any X w⟩
theorem parts_ok (k : Int) (j : Nat) (v : Value) (l : List (Nat × Int)) (h1 : (partsV k)[j]? = some v) (h2 : (partsL k)[j]? = some l) : PartOK v l := by
  unfold partsV at h1
  unfold partsL at h2
  by_cases q1 : k = 1 ∨ k = 2
  · rw [if_pos q1] at h1 h2
    match j, h1, h2 with
    | 0, h1, h2 => cases h1; cases h2; exact ok_begF
    | 1, h1, h2 => cases h1; cases h2; exact ok_staF
    | 2, h1, h2 => cases h1; cases h2; exact ok_endF
    | j + 3, h1, h2 => cases h1
  · by_cases q3 : k = 3
    · rw [if_neg q1, if_pos q3] at h1 h2
      match j, h1, h2 with
      | 0, h1, h2 => cases h1; cases h2; exact ok_begF
      | 1, h1, h2 => cases h1; cases h2; exact ok_zonF
      | 2, h1, h2 => cases h1; cases h2; exact ok_endF
      | j + 3, h1, h2 => cases h1
    · by_cases q4 : k = 4
      · rw [if_neg q1, if_neg q3, if_pos q4] at h1 h2
        match j, h1, h2 with
        | 0, h1, h2 => cases h1; cases h2; exact ok_begF
        | 1, h1, h2 => cases h1; cases h2; exact ok_staF
        | 2, h1, h2 => cases h1; cases h2; exact ok_useF
        | 3, h1, h2 => cases h1; cases h2; exact ok_endF
        | j + 4, h1, h2 => cases h1
      · rw [if_neg q1, if_neg q3, if_neg q4] at h1
        cases h1
theorem ppartsOf_1 (k : Int) (hk : k = 1) (w : World) : Calls Tryz.prog 29 #[.int .i64 k] w fun e w' => ∃ A c, e = .returned (.slice A 3 c) ∧ Rd w' w'.heap.size A (partsV k) ∧ Below w.heap.size w w' := by
  have hp : partsV k = [.func (.func 44) #[] #[], .func (.func 45) #[] #[], .func (.func 46) #[] #[]] := by rw [partsV, if_pos (by omega)]
  have q1 : (k == 1) = true := by rw [beq_iff_eq]; omega
  rw [hp]
  clear hp hk
  go_enter Tryz.func29, Tryz.ntmps29
  go_wp2
  go_ret
  exact ⟨_, _, rfl, rd_lit _ _ _, below_lit _ _ _⟩
theorem ppartsOf_2 (k : Int) (hk : k = 2) (w : World) : Calls Tryz.prog 29 #[.int .i64 k] w fun e w' => ∃ A c, e = .returned (.slice A 3 c) ∧ Rd w' w'.heap.size A (partsV k) ∧ Below w.heap.size w w' := by
  have hp : partsV k = [.func (.func 44) #[] #[], .func (.func 45) #[] #[], .func (.func 46) #[] #[]] := by rw [partsV, if_pos (by omega)]
  have q1 : (k == 1) = false := by rw [beq_eq_false_iff_ne]; omega
  have q2 : (k == 2) = true := by rw [beq_iff_eq]; omega
  rw [hp]
  clear hp hk
  go_enter Tryz.func29, Tryz.ntmps29
  go_wp2
  go_ret
  exact ⟨_, _, rfl, rd_lit _ _ _, below_lit _ _ _⟩
theorem ppartsOf_3 (k : Int) (hk : k = 3) (w : World) : Calls Tryz.prog 29 #[.int .i64 k] w fun e w' => ∃ A c, e = .returned (.slice A 3 c) ∧ Rd w' w'.heap.size A (partsV k) ∧ Below w.heap.size w w' := by
  have hp : partsV k = [.func (.func 44) #[] #[], .func (.func 47) #[] #[], .func (.func 46) #[] #[]] := by rw [partsV, if_neg (by omega), if_pos hk]
  have q1 : (k == 1) = false := by rw [beq_eq_false_iff_ne]; omega
  have q2 : (k == 2) = false := by rw [beq_eq_false_iff_ne]; omega
  have q3 : (k == 3) = true := by rw [beq_iff_eq]; omega
  rw [hp]
  clear hp hk
  go_enter Tryz.func29, Tryz.ntmps29
  go_wp2
  go_ret
  exact ⟨_, _, rfl, rd_lit _ _ _, below_lit _ _ _⟩
theorem ppartsOf_4 (k : Int) (hk : k = 4) (w : World) : Calls Tryz.prog 29 #[.int .i64 k] w fun e w' => ∃ A c, e = .returned (.slice A 4 c) ∧ Rd w' w'.heap.size A (partsV k) ∧ Below w.heap.size w w' := by
  have hp : partsV k = [.func (.func 44) #[] #[], .func (.func 45) #[] #[], .func (.func 48) #[] #[], .func (.func 46) #[] #[]] := by rw [partsV, if_neg (by omega), if_neg (by omega), if_pos hk]
  have q1 : (k == 1) = false := by rw [beq_eq_false_iff_ne]; omega
  have q2 : (k == 2) = false := by rw [beq_eq_false_iff_ne]; omega
  have q3 : (k == 3) = false := by rw [beq_eq_false_iff_ne]; omega
  have q4 : (k == 4) = true := by rw [beq_iff_eq]; omega
  rw [hp]
  clear hp hk
  go_enter Tryz.func29, Tryz.ntmps29
  go_wp2
  go_ret
  exact ⟨_, _, rfl, rd_lit _ _ _, below_lit _ _ _⟩
theorem ppartsOf_0 (k : Int) (hk : k < 1 ∨ 4 < k) (w : World) : Calls Tryz.prog 29 #[.int .i64 k] w fun e w' => ∃ A c, e = .returned (.slice A 0 c) ∧ Rd w' w'.heap.size A (partsV k) ∧ Below w.heap.size w w' := by
  have hp : partsV k = [] := by rw [partsV, if_neg (by omega), if_neg (by omega), if_neg (by omega)]
  have q1 : (k == 1) = false := by rw [beq_eq_false_iff_ne]; omega
  have q2 : (k == 2) = false := by rw [beq_eq_false_iff_ne]; omega
  have q3 : (k == 3) = false := by rw [beq_eq_false_iff_ne]; omega
  have q4 : (k == 4) = false := by rw [beq_eq_false_iff_ne]; omega
  rw [hp]
  clear hp hk
  go_enter Tryz.func29, Tryz.ntmps29
  go_wp2
  go_ret
  exact ⟨none, 0, rfl, by intro j u hu; simp at hu, Below.refl _ _⟩
theorem ppartsOf_any (k : Int) (m : Nat) (hm : m = (partsL k).length) (w : World) : Calls Tryz.prog 29 #[.int .i64 k] w fun e w' => ∃ A c, e = .returned (.slice A m c) ∧ Rd w' w'.heap.size A (partsV k) ∧ Below w.heap.size w w' := by
  rw [hm, ← partsV_len]
  by_cases h1 : k = 1
  · have := ppartsOf_1 k h1 w
    rwa [show (partsV k).length = 3 by rw [partsV, if_pos (by omega)]; rfl]
  · by_cases h2 : k = 2
    · have := ppartsOf_2 k h2 w
      rwa [show (partsV k).length = 3 by rw [partsV, if_pos (by omega)]; rfl]
    · by_cases h3 : k = 3
      · have := ppartsOf_3 k h3 w
        rwa [show (partsV k).length = 3 by rw [partsV, if_neg (by omega), if_pos h3]; rfl]
      · by_cases h4 : k = 4
        · have := ppartsOf_4 k h4 w
          rwa [show (partsV k).length = 4 by rw [partsV, if_neg (by omega), if_neg h3, if_pos h4]; rfl]
        · have := ppartsOf_0 k (by omega) w
          rwa [show (partsV k).length = 0 by rw [partsV, if_neg (by omega), if_neg h3, if_neg h4]; rfl]
/-- A slice that reads as fields of the reading at X. -/
structure Fs (w : World) (B X : Nat) (l : List (Nat × Int)) (A : Option Addr) (c : Nat) : Prop where
  rd : Rd w B A (FL X l)
  nil : A = none → c = 0
  len : l.length ≤ c
  cap : c ≤ 9223372036854775807
  lay : ∀ ad, A = some ad → ∃ g, ad = ⟨g, 0, none⟩
theorem Fs.next {w w' : World} {X : Nat} {l : List (Nat × Int)} {A : Option Addr} {c : Nat} (h : Fs w w.heap.size X l A c) (hb : Below w.heap.size w w') : Fs w' w'.heap.size X l A c := ⟨h.rd.next hb, h.nil, h.len, h.cap, h.lay⟩
theorem fs_of_own {w : World} {base n X : Nat} {v : Value} {l : List (Nat × Int)} (h : w.ownsRow base 57 2 v n (FL X l)) : ∃ A c, v = .slice A n c ∧ n = l.length ∧ Fs w w.heap.size X l A c ∧ ∀ ad, A = some ad → base ≤ ad.block := by
  have hn : l.length = n := by have := h.1; rw [FL_len] at this; omega
  rcases h.2 with ⟨rfl, h0⟩ | ⟨g, cap, cur, rfl, hgb, hg, h2, h3, _⟩
  · subst h0
    have : l = [] := List.eq_nil_of_length_eq_zero hn
    subst this
    exact ⟨none, 0, rfl, rfl, ⟨by intro k u hu; simp [FL] at hu, fun _ => rfl, by simp, by omega, by simp⟩, by simp⟩
  · unfold maxLen at h3
    refine ⟨_, cap, rfl, hn.symm, ⟨?_, by simp, by omega, h3, fun ad e => ⟨g, by cases e; rfl⟩⟩, fun ad e => by cases e; exact hgb⟩
    intro k u hu
    refine ⟨_, rfl, (Array.getElem?_eq_some_iff.1 hg).1, ?_⟩
    rw [at_add, h.cellAt k (by have := (List.getElem?_eq_some_iff.1 hu).1; rw [FL_len] at this; omega)]
    exact hu
theorem Fs.at {w : World} {B X : Nat} {l : List (Nat × Int)} {A : Option Addr} {c k : Nat} {p : Nat × Int} (h : Fs w B X l A c) (hp : l[k]? = some p) : ∃ g, A = some ⟨g, 0, none⟩ ∧ g < B ∧ w.cell? ⟨g, k * 2, none⟩ = some (.pointer (some ⟨X, p.1, none⟩)) ∧ w.cell? ⟨g, k * 2 + 1, none⟩ = some (.int .i64 p.2) := by
  obtain ⟨h1, h2⟩ := FL_at X l k p hp
  obtain ⟨ad, e0, hb, hc⟩ := h.rd _ _ h1
  obtain ⟨ad', e, _, hc'⟩ := h.rd _ _ h2
  obtain ⟨g, rfl⟩ := h.lay _ e0
  rw [e0] at e
  cases e
  rw [at_add] at hc hc'
  exact ⟨g, e0, hb, hc, hc'⟩
end Go.Proofs.YtaokhkbfiplfmaaGreatDoor
end
section
namespace Go.Proofs.YtaokhkbfiplfmaaGreatDoor
set_option linter.unusedVariables false
open Go.ChangeShapes Go.WideShapes Go.ChangeAt Go.RowKit

theorem flat_take {α : Type} (l : List (List α)) (j : Nat) (x : List α) (h : l[j]? = some x) : (l.take (j + 1)).flatten = (l.take j).flatten ++ x := by
  rw [List.take_add_one, h]; simp
theorem partsL_le (k : Int) : (partsL k).length ≤ 4 := by
  unfold partsL
  split
  · decide
  · split
    · decide
    · split <;> decide
theorem fields_le (k : Int) (j : Nat) : ((partsL k).take j).flatten.length ≤ 13 := by
  have h1 : ((partsL k).take j).flatten.length ≤ (partsL k).flatten.length := by
    conv => rhs; rw [← List.take_append_drop j (partsL k), List.flatten_append, List.length_append]
    omega
  have h2 := fieldsL_len k
  have h3 := widL_le k
  rw [fieldsL] at h2
  omega
set_option maxRecDepth 100000 in
set_option maxHeartbeats 1600000 in
theorem pfields_far (k : Int) (n : Nat) (hn : n = (fieldsL k).length) (X : Nat) (w : World) : Calls Tryz.prog 20 #[.pointer (some ⟨X, 0, none⟩), .int .i64 k] w fun e w' => ∃ A c, e = .returned (.slice A n c) ∧ Fs w' w'.heap.size X (fieldsL k) A c ∧ Below w.heap.size w w' ∧ ∀ ad, A = some ad → w.heap.size ≤ ad.block := by
  obtain ⟨i0, hi, hz0, hz1, hz2⟩ := info_parts infoFd
  obtain ⟨m, hm⟩ : ∃ m, m = (partsL k).length := ⟨_, rfl⟩
  have hm4 : m ≤ 4 := by rw [hm]; exact partsL_le k
  have HM := Lib.hid hm
  have HN := Lib.hid hn
  clear hm hn
  go_enter Tryz.func20, Tryz.ntmps20
  go_wp2_with fail
  refine (ppartsOf_any k m HM.out w).mono ?_
  rintro e w1 ⟨A, c, rfl, hrd, hb1⟩
  have HR := Lib.hid hrd
  have HB1 := Lib.hid hb1
  clear hrd hb1
  go_wp2
  go_loopw [5, 7, 11] (fun v _ i wr => ∃ j : Nat, j ≤ m ∧ i = .int .i64 j ∧ wr.ownsRow w1.heap.size 57 2 v ((partsL k).take j).flatten.length (FL X ((partsL k).take j).flatten) ∧ Below w1.heap.size w1 wr) (fun _ _ i _ => m - (intOf i).toNat)
  case atStart => exact ⟨0, Nat.zero_le _, rfl, ⟨rfl, .inl ⟨rfl, rfl⟩⟩, Below.refl _ _⟩
  case round =>
    obtain ⟨j, hj, rfl, hown, hbel⟩ := hrel
    have HO := Lib.hid hown
    have HBL := Lib.hid hbel
    clear hown hbel
    by_cases hlt : j < m
    · have hjl : j < (partsL k).length := by rw [← HM.out]; exact hlt
      have hjv : j < (partsV k).length := by rw [partsV_len]; exact hjl
      obtain ⟨x, hx⟩ : ∃ x, (partsL k)[j]? = some x := ⟨_, List.getElem?_eq_getElem hjl⟩
      obtain ⟨y, hy⟩ : ∃ y, (partsV k)[j]? = some y := ⟨_, List.getElem?_eq_getElem hjv⟩
      obtain ⟨K, rfl, h7, hent, hcon⟩ := parts_ok k j y x hy hx
      obtain ⟨ad, rfl, hb, hc⟩ := (HR.out.next HBL.out) j _ hy
      have hle := fields_le k j
      have HX := Lib.hid hx
      have HC := Lib.hid hcon
      obtain ⟨q, hq⟩ : ∃ q, q = x.length := ⟨_, rfl⟩
      rw [← hq] at h7
      have HQ := Lib.hid hq
      obtain ⟨p, hp⟩ : ∃ p, p = ((partsL k).take j).flatten.length := ⟨_, rfl⟩
      rw [← hp] at hle
      have HP := Lib.hid hp
      have HO1 : Hid (_) := Lib.hid (hp ▸ HO.out)
      have b1 : (0 : Int) ≤ (j : Int) := by omega
      have b2 : (j : Int) < (m : Int) := by omega
      clear hjl hjv hx hy hcon hq hp
      go_wp2_with (first | (refine (HC.out X _).mono ?_; rintro e w2 ⟨A2, rfl, hrd2, hb2⟩; have HR2 := Lib.hid hrd2; have HBD := Lib.hid hb2; have HBL1 := Lib.hid (HBL.out.trans (hb2.mono HBL.out.size)); clear hrd2 hb2; try rw [← HQ.out]) | (at_builtin; refine wpList_append_own _ rfl _ _ 53 rfl w1.heap.size 57 i0 (.agg #[.pointer none, .int .i64 0]) 2 16 Tryz.underlying53 hi hz0 hz1 hz2 rfl (by decide) _ p _ rfl (own_below HO1.out HBD.out) A2 q q (FL X x) rfl (by rw [FL_len, HQ.out]) (fun a u hu => by obtain ⟨ad, e, _, hc⟩ := HR2.out a u hu; cases e; exact hc) (FL_one X x) (by unfold maxLen; omega) (by omega) HBL1.out.size ?_; intro v' w3 hown' hgrow _))
      have hbel2 : Below w1.heap.size w1 w3 := HBL1.out.grown hgrow HBL1.out.size (fun j hj => own_ge (own_below HO1.out HBD.out) hj)
      have HO2 : Hid (w3.ownsRow w1.heap.size 57 2 v' ((partsL k).take (j + 1)).flatten.length (FL X ((partsL k).take (j + 1)).flatten)) := Lib.hid (by
        rw [flat_take _ j x HX.out, FL_append, List.length_append, ← HP.out, ← HQ.out]; exact hown')
      clear hown' hgrow
      go_wp2
      go_roundw
      case rel => exact ⟨j + 1, by omega, by go_num, HO2.out, hbel2⟩
      case measure => simp [intOf]; omega
    · have e1 : j = m := by omega
      subst e1
      obtain ⟨A2, c2, rfl, hl, hfs, hfar⟩ := fs_of_own HO.out
      have HFA := Lib.hid hfar
      have e2 : ((partsL k).take j).flatten = fieldsL k := by rw [List.take_of_length_le (by rw [← HM.out]; omega), fieldsL]
      rw [e2] at hfs
      have e3 : ((partsL k).take j).flatten.length = n := by rw [e2, HN.out]
      rw [e3]
      have HFS := Lib.hid hfs
      have HB2 := Lib.hid (HB1.out.trans (HBL.out.mono HB1.out.size))
      clear hl hfs hfar e2 e3
      go_wp2
      go_ret
      exact ⟨A2, c2, rfl, HFS.out, HB2.out, fun ad e => Nat.le_trans HB1.out.size (HFA.out ad e)⟩
theorem pfields_any (k : Int) (n : Nat) (hn : n = (fieldsL k).length) (X : Nat) (w : World) : Calls Tryz.prog 20 #[.pointer (some ⟨X, 0, none⟩), .int .i64 k] w fun e w' => ∃ A c, e = .returned (.slice A n c) ∧ Fs w' w'.heap.size X (fieldsL k) A c ∧ Below w.heap.size w w' :=
  (pfields_far k n hn X w).mono fun e w' ⟨A, c, h1, h2, h3, _⟩ => ⟨A, c, h1, h2, h3⟩
end Go.Proofs.YtaokhkbfiplfmaaGreatDoor
end
section
namespace Go.Proofs.YtaokhkbfiplfmaaGreatDoor
set_option linter.unusedVariables false
open Go.ChangeShapes Go.WideShapes Go.ChangeAt Go.RowKit

/-- A slice value that reads as bytes: where it lies, and its capacity. -/
structure Bs (w : World) (B : Nat) (s : List Nat) (A : Option Addr) (c : Nat) : Prop where
  rd : Rd w B A (U8 s)
  nil : A = none → c = 0
  len : s.length ≤ c
  cap : c ≤ 9223372036854775807
  lt : ∀ x ∈ s, x < 256
theorem Bs.next {w w' : World} {s : List Nat} {A : Option Addr} {c : Nat} (h : Bs w w.heap.size s A c) (hb : Below w.heap.size w w') : Bs w' w'.heap.size s A c := ⟨h.rd.next hb, h.nil, h.len, h.cap, h.lt⟩
theorem Bs.below {w w' : World} {B : Nat} {s : List Nat} {A : Option Addr} {c : Nat} (h : Bs w B s A c) (hb : Below B w w') : Bs w' B s A c := ⟨h.rd.below hb, h.nil, h.len, h.cap, h.lt⟩
theorem Bs.more {w : World} {B B' : Nat} {s : List Nat} {A : Option Addr} {c : Nat} (h : Bs w B s A c) (hB : B ≤ B') : Bs w B' s A c := ⟨h.rd.more hB, h.nil, h.len, h.cap, h.lt⟩
theorem bs_of_own {w : World} {base n : Nat} {v : Value} {s : List Nat} (h : w.ownsRow base 5 1 v n (U8 s)) (hs : ∀ x ∈ s, x < 256) : ∃ A c, v = .slice A n c ∧ Bs w w.heap.size s A c := by
  have hn : s.length = n := by have := h.1; simpa [U8] using this
  rcases h.2 with ⟨rfl, h0⟩ | ⟨g, cap, cur, rfl, _, _, h2, h3, _⟩
  · subst h0
    have : s = [] := List.eq_nil_of_length_eq_zero hn
    subst this
    exact ⟨none, 0, rfl, ⟨by intro k u hu; simp [U8] at hu, fun _ => rfl, by simp, by omega, by simp⟩⟩
  · unfold maxLen at h3
    exact ⟨_, cap, rfl, ⟨Rd.of_own h, by simp, by omega, h3, hs⟩⟩
end Go.Proofs.YtaokhkbfiplfmaaGreatDoor
end
section
namespace Go.Proofs.YtaokhkbfiplfmaaGreatDoor
set_option linter.unusedVariables false
open Go.ChangeShapes Go.WideShapes Go.ChangeAt Go.RowKit

theorem bbs_nil (w : World) : Bs w w.heap.size [] none 0 := ⟨by intro j u hu; simp [U8] at hu, fun _ => rfl, by simp, by omega, by simp⟩
theorem bint_lit (w : World) (x : Int) : ∀ j u, (I64 [x])[j]? = some u → (w.alloc (.cells #[.int .i64 x] 3)).cell? ((⟨w.heap.size, 0, none⟩ : Addr).add j) = some u := by
  intro j u hu
  obtain ⟨ad, e, _, hc⟩ := rd_lit w #[.int .i64 x] 3 j u hu
  cases e
  exact hc
end Go.Proofs.YtaokhkbfiplfmaaGreatDoor
end
section
namespace Go.Proofs.YtaokhkbfiplfmaaGreatDoor
set_option linter.unusedVariables false
open Go.ChangeShapes Go.WideShapes Go.ChangeAt Go.RowKit

theorem int_lit2 (w : World) (o : Obj) (x : Int) : ∀ j u, ([.int .i64 x] : List Value)[j]? = some u → ((w.alloc o).alloc (.cells #[.int .i64 x] 3)).cell? ((⟨w.heap.size + 1, 0, none⟩ : Addr).add j) = some u := by
  have h := bint_lit (w.alloc o) x
  rw [show (w.alloc o).heap.size = w.heap.size + 1 by simp] at h
  exact h
theorem one_int (x : Int) : ∀ u ∈ ([.int .i64 x] : List Value), u.oneCell' = true := by
  intro u hu
  simp only [List.mem_singleton] at hu
  subst hu; rfl
theorem ltake_snoc {α : Type} {l : List α} {k : Nat} {x : α} (h : l[k]? = some x) : l.take (k + 1) = l.take k ++ [x] := by rw [List.take_add_one, h]; rfl
end Go.Proofs.YtaokhkbfiplfmaaGreatDoor
end
section
namespace Go.Proofs.YtaokhkbfiplfmaaGreatDoor
set_option linter.unusedVariables false
open Go.ChangeShapes Go.WideShapes Go.ChangeAt Go.RowKit

theorem own_base {w : World} {base base' : Nat} {e : TypeId} {size : Nat} {v : Value} {n : Nat} {xs : List Value} (h : w.ownsRow base e size v n xs) (hb : base' ≤ base) : w.ownsRow base' e size v n xs := by
  refine ⟨h.1, ?_⟩
  rcases h.2 with hn | ⟨g, cap, cur, rfl, h1, rest⟩
  · exact .inl hn
  · exact .inr ⟨g, cap, cur, rfl, Nat.le_trans hb h1, rest⟩

section
variable {P : Program} (w : World)
end
end Go.Proofs.YtaokhkbfiplfmaaGreatDoor
end
