/-
  Contracts for the program's Stripe, Version and Barcode of fits. Conditions: none.
  The laws' constant check of layer 20, walked. Conditions: none.
  A slice value that reads as bytes; what a call owns of them. No program of its own; conditions: none.
  What it means that a value is a key, and that a slice reads as a list of keys. Conditions: none.
  Contract for the reference's Right: whether a key is right. Conditions: the numbers fit an int.
  Contract for the reference's Is: whether keys are a ring. Conditions: the slice reads as keys.
  No bytes at all, as a slice that is nil. Conditions: none.
  A key in a box of its own: how it is stored whole, and handed back. No program of its own; conditions: the block is there.
  Contract for the reference's Find: the key of a number, or the document's errors. Conditions: the slice reads as keys.
  Lists of keys that a call makes of its own: their cells, how one is put behind them, and how they are read. Conditions: none.
  Plain facts on adding a key to a ring. No program here.
  What On answers, plainly. Conditions: none.
  Plain facts on rings: a ring with keys more, found in whatever order. No program here.
  Contracts for bits.Rot and its reference: both answer the word turned by n places, for every word and number, and turn nothing in memory. Conditions: the arguments fit their kinds.
  Contracts for the small functions of layer 2's reference (two, three, pick, most): each answers just the word that the plain functions give. Conditions: the arguments fit their kinds.
  Contracts for the small functions of package sha (stirEarly, stirLate, turnLow, turnHigh, choose, most): each answers just the word that the plain functions give. Conditions: the arguments fit 32 bits.
  Contracts for the reference's Constants and Begin of layer 2: just the table, and just the beginning. Conditions: none.
  Contract for round of package sha: eight words are moved on by one place just so. Conditions: the words fit 32 bits.
  A law for append within a region that leaves its order open: what was in the row stays readable at its old place. No program of its own; conditions: the row is the call's own.
  Contract for the reference's Block of layer 2: eight words and sixteen make just these eight. Conditions: the words fit 32 bits.
-/
import Derived.Test.YtaokhkbfiplfmaaDoorTicketPRightK
import Derived.Test.YtaokhkbfiplfmaaDoorMath
import Derived.Test.YtaokhkbfiplfmaaDoorMem
import Derived.ArgAppend
section
namespace Go.Proofs.YtaokhkbfiplfmaaDoor
set_option linter.unusedVariables false
open Go.ChangeShapes Go.WideShapes Go.ChangeAt Go.RowKit

set_option maxRecDepth 100000 in
set_option maxHeartbeats 1600000 in
theorem pfstripe_any (t : Tk) (b : Bool) (hb : roomS t = b) (w : World) : Calls Tryd.prog 8 #[.agg #[.int .i64 t.ser, .int .i64 t.kind, .int .i64 t.frm, .int .i64 t.till, .int .i64 t.cls, .int .i64 t.card, .int .i64 t.seat, .int .i64 t.day, .int .i64 t.days, .int .i64 t.uses, .int .i64 t.epoch]] w fun e w' => e = .returned (.bool b) ∧ Below w.heap.size w w' := by
  have HBL := Lib.hid (Below.refl w.heap.size w)
  have HB := Lib.hid (show (okT t && (decide (t.ser ≤ 9999999) && (t.seat == 0))) = b from hb)
  clear hb
  cases h0 : okT t <;> cases h1 : decide (t.ser ≤ 9999999) <;> cases h2 : (t.seat == 0)
  all_goals
    have hb := HB.out
    rw [h0, h1, h2] at hb
    subst hb
    have H0 := Lib.hid h0
    clear h0
    go_enter Tryd.func8, Tryd.ntmps8
    go_wp2_with fail
    obtain ⟨w1, hw⟩ : ∃ w1, w1 = w.alloc (.cells #[.int .i64 t.ser, .int .i64 t.kind, .int .i64 t.frm, .int .i64 t.till, .int .i64 t.cls, .int .i64 t.card, .int .i64 t.seat, .int .i64 t.day, .int .i64 t.days, .int .i64 t.uses, .int .i64 t.epoch] 23) := ⟨_, rfl⟩
    rw [← hw]
    have hx : TBox w1 w.heap.size t := by rw [hw]; exact TBox.new w t
    have hb : Below w.heap.size w w1 := by rw [hw]; exact below_lit w _ _
    replace HBL := Lib.hid (HBL.out.trans (hb.mono HBL.out.size))
    have X1 := Lib.hid hx
    clear hx hb hw
    obtain ⟨B1, hB⟩ : ∃ B, B = w.heap.size := ⟨_, rfl⟩
    rw [← hB] at X1 ⊢
    clear hB
    refine (pis9_any t _ H0.out w1).mono ?_
    rintro e w2 ⟨rfl, hb⟩
    replace X1 := Lib.hid (X1.out.next hb)
    replace HBL := Lib.hid (HBL.out.trans (hb.mono HBL.out.size))
    clear hb
    obtain ⟨c0, c1, c2, c3, c4, c5, c6, c7, c8, c9, c10⟩ := X1.out.cells
    go_wp2
    go_ret
    exact ⟨rfl, HBL.out⟩
set_option maxRecDepth 100000 in
set_option maxHeartbeats 1600000 in
theorem pfversion_any (t : Tk) (v E : Int) (hv : (if okT t then leastV t else 0) = v) (hE : (if okT t then 0 else 1) = E) (w : World) : Calls Tryd.prog 9 #[.agg #[.int .i64 t.ser, .int .i64 t.kind, .int .i64 t.frm, .int .i64 t.till, .int .i64 t.cls, .int .i64 t.card, .int .i64 t.seat, .int .i64 t.day, .int .i64 t.days, .int .i64 t.uses, .int .i64 t.epoch]] w fun e w' => e = .returned (.tuple #[.int .i64 v, .int .i64 E]) ∧ Below w.heap.size w w' := by
  have HBL := Lib.hid (Below.refl w.heap.size w)
  cases h0 : okT t
  · have H0 := Lib.hid h0
    rw [h0] at hv hE
    obtain rfl : 0 = v := hv
    obtain rfl : 1 = E := hE
    clear h0
    go_enter Tryd.func9, Tryd.ntmps9
    go_wp2_with fail
    obtain ⟨w1, hw⟩ : ∃ w1, w1 = w.alloc (.cells #[.int .i64 t.ser, .int .i64 t.kind, .int .i64 t.frm, .int .i64 t.till, .int .i64 t.cls, .int .i64 t.card, .int .i64 t.seat, .int .i64 t.day, .int .i64 t.days, .int .i64 t.uses, .int .i64 t.epoch] 23) := ⟨_, rfl⟩
    rw [← hw]
    have hx : TBox w1 w.heap.size t := by rw [hw]; exact TBox.new w t
    have hb : Below w.heap.size w w1 := by rw [hw]; exact below_lit w _ _
    replace HBL := Lib.hid (HBL.out.trans (hb.mono HBL.out.size))
    have X1 := Lib.hid hx
    clear hx hb hw
    obtain ⟨B1, hB⟩ : ∃ B, B = w.heap.size := ⟨_, rfl⟩
    rw [← hB] at X1 ⊢
    clear hB
    refine (pis9_any t false H0.out w1).mono ?_
    rintro e w2 ⟨rfl, hb⟩
    replace X1 := Lib.hid (X1.out.next hb)
    replace HBL := Lib.hid (HBL.out.trans (hb.mono HBL.out.size))
    clear hb
    go_wp2
    go_ret2
    exact ⟨rfl, HBL.out⟩
  · have H0 := Lib.hid h0
    rw [h0] at hv hE
    obtain rfl : 0 = E := hE
    have HV := Lib.hid (show leastV t = v from hv)
    clear h0 hv
    go_enter Tryd.func9, Tryd.ntmps9
    go_wp2_with fail
    obtain ⟨w1, hw⟩ : ∃ w1, w1 = w.alloc (.cells #[.int .i64 t.ser, .int .i64 t.kind, .int .i64 t.frm, .int .i64 t.till, .int .i64 t.cls, .int .i64 t.card, .int .i64 t.seat, .int .i64 t.day, .int .i64 t.days, .int .i64 t.uses, .int .i64 t.epoch] 23) := ⟨_, rfl⟩
    rw [← hw]
    have hx : TBox w1 w.heap.size t := by rw [hw]; exact TBox.new w t
    have hb : Below w.heap.size w w1 := by rw [hw]; exact below_lit w _ _
    replace HBL := Lib.hid (HBL.out.trans (hb.mono HBL.out.size))
    have X1 := Lib.hid hx
    clear hx hb hw
    obtain ⟨B1, hB⟩ : ∃ B, B = w.heap.size := ⟨_, rfl⟩
    rw [← hB] at X1 ⊢
    clear hB
    refine (pis9_any t true H0.out w1).mono ?_
    rintro e w2 ⟨rfl, hb⟩
    replace X1 := Lib.hid (X1.out.next hb)
    replace HBL := Lib.hid (HBL.out.trans (hb.mono HBL.out.size))
    clear hb
    obtain ⟨c0, c1, c2, c3, c4, c5, c6, c7, c8, c9, c10⟩ := X1.out.cells
    go_wp2_with fail
    obtain ⟨w3, hw⟩ : ∃ w3, w3 = w2.alloc (.cells #[.int .i64 t.card, .int .i64 t.seat] 3) := ⟨_, rfl⟩
    rw [← hw]
    have k0 : w3.cell? ⟨w2.heap.size, 0, none⟩ = some (.int .i64 t.card) := by rw [hw]; exact (cell_of_row _ _ 0 _ _ (0, 0) (heap_alloc_new w2 _)).trans rfl
    have k1 : w3.cell? ⟨w2.heap.size, 1, none⟩ = some (.int .i64 t.seat) := by rw [hw]; exact (cell_of_row _ _ 1 _ _ (0, 0) (heap_alloc_new w2 _)).trans rfl
    have hb : Below w2.heap.size w2 w3 := by rw [hw]; exact below_lit w2 _ _
    clear c0 c1 c2 c3 c4 c5 c6 c7 c8 c9 c10
    replace X1 := Lib.hid (X1.out.next hb)
    replace HBL := Lib.hid (HBL.out.trans (hb.mono HBL.out.size))
    clear hb hw
    refine (ptell_any t.card t.seat v HV.out _ w3 k0 k1).mono ?_
    rintro e w9 ⟨rfl, rfl⟩
    go_wp2
    go_ret2
    exact ⟨rfl, HBL.out⟩
set_option maxRecDepth 100000 in
set_option maxHeartbeats 1600000 in
theorem pfbarcode_any (t : Tk) (v : Int) (b : Bool) (hb : roomB t v = b) (w : World) : Calls Tryd.prog 6 #[.agg #[.int .i64 t.ser, .int .i64 t.kind, .int .i64 t.frm, .int .i64 t.till, .int .i64 t.cls, .int .i64 t.card, .int .i64 t.seat, .int .i64 t.day, .int .i64 t.days, .int .i64 t.uses, .int .i64 t.epoch], .int .i64 v] w fun e w' => e = .returned (.bool b) ∧ Below w.heap.size w w' := by
  have HBL := Lib.hid (Below.refl w.heap.size w)
  obtain ⟨y, hy⟩ : ∃ y, (if okT t then leastV t else 0) = y := ⟨_, rfl⟩
  obtain ⟨E, hE⟩ : ∃ E : Int, (if okT t then 0 else 1) = E := ⟨_, rfl⟩
  have HY := Lib.hid hy
  have HE := Lib.hid hE
  have hb' : ((E == 0) && (decide (y ≤ v) && decide (v ≤ 3))) = b := by
    rw [← hb, ← hy, ← hE, roomB]
    cases okT t <;> rfl
  have HB := Lib.hid hb'
  clear hb hy hE hb'
  cases h0 : (E == 0) <;> cases h1 : decide (y ≤ v) <;> cases h2 : decide (v ≤ 3)
  all_goals
    have hb := HB.out
    rw [h0, h1, h2] at hb
    subst hb
    go_enter Tryd.func6, Tryd.ntmps6
    go_wp2_with fail
    obtain ⟨w1, hw⟩ : ∃ w1, w1 = w.alloc (.cells #[.int .i64 t.ser, .int .i64 t.kind, .int .i64 t.frm, .int .i64 t.till, .int .i64 t.cls, .int .i64 t.card, .int .i64 t.seat, .int .i64 t.day, .int .i64 t.days, .int .i64 t.uses, .int .i64 t.epoch] 23) := ⟨_, rfl⟩
    rw [← hw]
    have hx : TBox w1 w.heap.size t := by rw [hw]; exact TBox.new w t
    have hb : Below w.heap.size w w1 := by rw [hw]; exact below_lit w _ _
    replace HBL := Lib.hid (HBL.out.trans (hb.mono HBL.out.size))
    have X1 := Lib.hid hx
    clear hx hb hw
    obtain ⟨B1, hB⟩ : ∃ B, B = w.heap.size := ⟨_, rfl⟩
    rw [← hB] at X1 ⊢
    clear hB
    refine (pfversion_any t y E HY.out HE.out w1).mono ?_
    rintro e w2 ⟨rfl, hb⟩
    replace X1 := Lib.hid (X1.out.next hb)
    replace HBL := Lib.hid (HBL.out.trans (hb.mono HBL.out.size))
    clear hb
    go_wp2
    go_ret
    exact ⟨rfl, HBL.out⟩
end Go.Proofs.YtaokhkbfiplfmaaDoor
end
section
namespace Go.Proofs.YtaokhkbfiplfmaaDoor
set_option linter.unusedVariables false
open Go.ChangeShapes Go.WideShapes Go.ChangeAt Go.RowKit

def ft0 : Tk := ⟨42, 1, 3, 20, 2, 0, 0, 10, 1, 1, 0⟩
def ft1 : Tk := ⟨42, 1, 3, 20, 2, 2, 0, 10, 1, 1, 0⟩
def ft2 : Tk := ⟨42, 1, 3, 20, 2, 2, 9, 10, 1, 1, 0⟩
def ft3 : Tk := ⟨42, 1, 3, 20, 9, 2, 9, 10, 1, 1, 0⟩
theorem tbox_set {w : World} {b j : Nat} {t u : Tk} {x : Value} (h : TBox w b t) (e : (#[.int .i64 t.ser, .int .i64 t.kind, .int .i64 t.frm, .int .i64 t.till, .int .i64 t.cls, .int .i64 t.card, .int .i64 t.seat, .int .i64 t.day, .int .i64 t.days, .int .i64 t.uses, .int .i64 t.epoch] : Array Value).setIfInBounds j x = #[.int .i64 u.ser, .int .i64 u.kind, .int .i64 u.frm, .int .i64 u.till, .int .i64 u.cls, .int .i64 u.card, .int .i64 u.seat, .int .i64 u.day, .int .i64 u.days, .int .i64 u.uses, .int .i64 u.epoch]) : TBox (w.setCell ⟨b, j, none⟩ x) b u := by
  have := heap_setCell_same w b j _ _ x h
  rw [e] at this
  exact this
set_option maxRecDepth 100000 in
set_option maxHeartbeats 1600000 in
theorem plain20_any (w : World) : Calls Tryd.prog 7 #[] w fun e w' => e = .returned (.agg #[.int .i64 ft0.ser, .int .i64 ft0.kind, .int .i64 ft0.frm, .int .i64 ft0.till, .int .i64 ft0.cls, .int .i64 ft0.card, .int .i64 ft0.seat, .int .i64 ft0.day, .int .i64 ft0.days, .int .i64 ft0.uses, .int .i64 ft0.epoch]) ∧ Below w.heap.size w w' := by
  have HBL := Lib.hid (Below.refl w.heap.size w)
  go_enter Tryd.func7, Tryd.ntmps7
  go_wp2
  exact bodyPost_ret (results_row Tryd.results7 _ _ w.heap.size _ _ (0, 0) _ rfl (heap_alloc_new w _) Tryd.underlying23 rfl infoTk) rfl ⟨rfl, below_lit w _ _⟩
set_option maxRecDepth 100000 in
set_option maxHeartbeats 1600000 in
theorem fitted_any (w : World) : Calls Tryd.prog 4 #[] w fun e w' => e = .returned (.bool true) ∧ Below w.heap.size w w' := by
  have HBL := Lib.hid (Below.refl w.heap.size w)
  go_enter Tryd.func4, Tryd.ntmps4
  go_wp2_with fail
  refine (plain20_any w).mono ?_
  rintro e w1 ⟨rfl, hb⟩
  replace HBL := Lib.hid (HBL.out.trans (hb.mono HBL.out.size))
  clear hb
  go_wp2_with fail
  obtain ⟨w2, hw⟩ : ∃ w2, w2 = w1.alloc (.cells #[.int .i64 ft0.ser, .int .i64 ft0.kind, .int .i64 ft0.frm, .int .i64 ft0.till, .int .i64 ft0.cls, .int .i64 ft0.card, .int .i64 ft0.seat, .int .i64 ft0.day, .int .i64 ft0.days, .int .i64 ft0.uses, .int .i64 ft0.epoch] 23) := ⟨_, rfl⟩
  rw [← hw]
  have hx : TBox w2 w1.heap.size ft0 := by rw [hw]; exact TBox.new w1 ft0
  have HGE := Lib.hid HBL.out.size
  have hb : Below w1.heap.size w1 w2 := by rw [hw]; exact below_lit w1 _ _
  replace HBL := Lib.hid (HBL.out.trans (hb.mono HBL.out.size))
  have X1 := Lib.hid hx
  clear hx hb hw
  obtain ⟨B1, hB⟩ : ∃ B, B = w1.heap.size := ⟨_, rfl⟩
  rw [← hB] at X1 HGE ⊢
  clear hB
  obtain ⟨c0, c1, c2, c3, c4, c5, c6, c7, c8, c9, c10⟩ := X1.out.cells
  go_wp2_with fail
  refine (pfstripe_any ft0 true (by decide) w2).mono ?_
  rintro e w3 ⟨rfl, hb⟩
  clear c0 c1 c2 c3 c4 c5 c6 c7 c8 c9 c10
  replace X1 := Lib.hid (X1.out.next hb)
  replace HBL := Lib.hid (HBL.out.trans (hb.mono HBL.out.size))
  clear hb
  obtain ⟨c0, c1, c2, c3, c4, c5, c6, c7, c8, c9, c10⟩ := X1.out.cells
  go_wp2_with fail
  refine (pfversion_any ft0 1 0 (by decide) (by decide) w3).mono ?_
  rintro e w4 ⟨rfl, hb⟩
  clear c0 c1 c2 c3 c4 c5 c6 c7 c8 c9 c10
  replace X1 := Lib.hid (X1.out.next hb)
  replace HBL := Lib.hid (HBL.out.trans (hb.mono HBL.out.size))
  clear hb
  obtain ⟨c0, c1, c2, c3, c4, c5, c6, c7, c8, c9, c10⟩ := X1.out.cells
  go_wp2_with fail
  refine (pfbarcode_any ft0 1 true (by decide) w4).mono ?_
  rintro e w5 ⟨rfl, hb⟩
  clear c0 c1 c2 c3 c4 c5 c6 c7 c8 c9 c10
  replace X1 := Lib.hid (X1.out.next hb)
  replace HBL := Lib.hid (HBL.out.trans (hb.mono HBL.out.size))
  clear hb
  obtain ⟨c0, c1, c2, c3, c4, c5, c6, c7, c8, c9, c10⟩ := X1.out.cells
  have cf := X1.out.frozen 5
  go_wp2_with fail
  have hx := tbox_set (j := 5) (x := .int .i64 2) (u := ft1) X1.out rfl
  have hb := HBL.out.setCell (p := ⟨B1, 5, none⟩) HGE.out (.int .i64 2)
  clear c0 c1 c2 c3 c4 c5 c6 c7 c8 c9 c10 cf
  clear X1 HBL
  obtain ⟨w6, hw⟩ : ∃ w6, w6 = w5.setCell ⟨B1, 5, none⟩ (.int .i64 2) := ⟨_, rfl⟩
  rw [← hw] at hx hb ⊢
  clear hw
  have X1 := Lib.hid hx
  have HBL := Lib.hid hb
  clear hx hb
  obtain ⟨c0, c1, c2, c3, c4, c5, c6, c7, c8, c9, c10⟩ := X1.out.cells
  go_wp2_with fail
  refine (pfversion_any ft1 2 0 (by decide) (by decide) w6).mono ?_
  rintro e w7 ⟨rfl, hb⟩
  clear c0 c1 c2 c3 c4 c5 c6 c7 c8 c9 c10
  replace X1 := Lib.hid (X1.out.next hb)
  replace HBL := Lib.hid (HBL.out.trans (hb.mono HBL.out.size))
  clear hb
  obtain ⟨c0, c1, c2, c3, c4, c5, c6, c7, c8, c9, c10⟩ := X1.out.cells
  go_wp2_with fail
  refine (pfbarcode_any ft1 1 false (by decide) w7).mono ?_
  rintro e w8 ⟨rfl, hb⟩
  clear c0 c1 c2 c3 c4 c5 c6 c7 c8 c9 c10
  replace X1 := Lib.hid (X1.out.next hb)
  replace HBL := Lib.hid (HBL.out.trans (hb.mono HBL.out.size))
  clear hb
  obtain ⟨c0, c1, c2, c3, c4, c5, c6, c7, c8, c9, c10⟩ := X1.out.cells
  have cf := X1.out.frozen 6
  go_wp2_with fail
  have hx := tbox_set (j := 6) (x := .int .i64 9) (u := ft2) X1.out rfl
  have hb := HBL.out.setCell (p := ⟨B1, 6, none⟩) HGE.out (.int .i64 9)
  clear c0 c1 c2 c3 c4 c5 c6 c7 c8 c9 c10 cf
  clear X1 HBL
  obtain ⟨w9, hw⟩ : ∃ w9, w9 = w8.setCell ⟨B1, 6, none⟩ (.int .i64 9) := ⟨_, rfl⟩
  rw [← hw] at hx hb ⊢
  clear hw
  have X1 := Lib.hid hx
  have HBL := Lib.hid hb
  clear hx hb
  obtain ⟨c0, c1, c2, c3, c4, c5, c6, c7, c8, c9, c10⟩ := X1.out.cells
  go_wp2_with fail
  refine (pfversion_any ft2 3 0 (by decide) (by decide) w9).mono ?_
  rintro e w10 ⟨rfl, hb⟩
  clear c0 c1 c2 c3 c4 c5 c6 c7 c8 c9 c10
  replace X1 := Lib.hid (X1.out.next hb)
  replace HBL := Lib.hid (HBL.out.trans (hb.mono HBL.out.size))
  clear hb
  obtain ⟨c0, c1, c2, c3, c4, c5, c6, c7, c8, c9, c10⟩ := X1.out.cells
  go_wp2_with fail
  refine (pfstripe_any ft2 false (by decide) w10).mono ?_
  rintro e w11 ⟨rfl, hb⟩
  clear c0 c1 c2 c3 c4 c5 c6 c7 c8 c9 c10
  replace X1 := Lib.hid (X1.out.next hb)
  replace HBL := Lib.hid (HBL.out.trans (hb.mono HBL.out.size))
  clear hb
  obtain ⟨c0, c1, c2, c3, c4, c5, c6, c7, c8, c9, c10⟩ := X1.out.cells
  have cf := X1.out.frozen 4
  go_wp2_with fail
  have hx := tbox_set (j := 4) (x := .int .i64 9) (u := ft3) X1.out rfl
  have hb := HBL.out.setCell (p := ⟨B1, 4, none⟩) HGE.out (.int .i64 9)
  clear c0 c1 c2 c3 c4 c5 c6 c7 c8 c9 c10 cf
  clear X1 HBL
  obtain ⟨w12, hw⟩ : ∃ w12, w12 = w11.setCell ⟨B1, 4, none⟩ (.int .i64 9) := ⟨_, rfl⟩
  rw [← hw] at hx hb ⊢
  clear hw
  have X1 := Lib.hid hx
  have HBL := Lib.hid hb
  clear hx hb
  obtain ⟨c0, c1, c2, c3, c4, c5, c6, c7, c8, c9, c10⟩ := X1.out.cells
  go_wp2_with fail
  refine (pfversion_any ft3 0 1 (by decide) (by decide) w12).mono ?_
  rintro e w13 ⟨rfl, hb⟩
  clear c0 c1 c2 c3 c4 c5 c6 c7 c8 c9 c10
  replace X1 := Lib.hid (X1.out.next hb)
  replace HBL := Lib.hid (HBL.out.trans (hb.mono HBL.out.size))
  clear hb
  go_wp2
  go_ret
  exact ⟨rfl, HBL.out⟩
end Go.Proofs.YtaokhkbfiplfmaaDoor
end
section
namespace Go.Proofs.YtaokhkbfiplfmaaDoor
set_option linter.unusedVariables false
open Go.ChangeShapes Go.WideShapes Go.ChangeAt Go.RowKit

/-- A slice value that reads as bytes: where it lies, and its capacity. -/
structure Bs (w : World) (B : Nat) (s : List Nat) (A : Option Addr) (c : Nat) : Prop where
  rd : Rd w B A (U8 s)
  nil : A = none → c = 0
  len : s.length ≤ c
  cap : c ≤ 9223372036854775807
  lt : ∀ x ∈ s, x < 256
theorem Bs.next {w w' : World} {s : List Nat} {A : Option Addr} {c : Nat} (h : Bs w w.heap.size s A c) (hb : Below w.heap.size w w') : Bs w' w'.heap.size s A c := ⟨h.rd.next hb, h.nil, h.len, h.cap, h.lt⟩
theorem Bs.below {w w' : World} {B : Nat} {s : List Nat} {A : Option Addr} {c : Nat} (h : Bs w B s A c) (hb : Below B w w') : Bs w' B s A c := ⟨h.rd.below hb, h.nil, h.len, h.cap, h.lt⟩
theorem Bs.more {w : World} {B B' : Nat} {s : List Nat} {A : Option Addr} {c : Nat} (h : Bs w B s A c) (hB : B ≤ B') : Bs w B' s A c := ⟨h.rd.more hB, h.nil, h.len, h.cap, h.lt⟩
theorem bs_of_own {w : World} {base n : Nat} {v : Value} {s : List Nat} (h : w.ownsRow base 5 1 v n (U8 s)) (hs : ∀ x ∈ s, x < 256) : ∃ A c, v = .slice A n c ∧ Bs w w.heap.size s A c := by
  have hn : s.length = n := by have := h.1; simpa [U8] using this
  rcases h.2 with ⟨rfl, h0⟩ | ⟨g, cap, cur, rfl, _, _, h2, h3, _⟩
  · subst h0
    have : s = [] := List.eq_nil_of_length_eq_zero hn
    subst this
    exact ⟨none, 0, rfl, ⟨by intro k u hu; simp [U8] at hu, fun _ => rfl, by simp, by omega, by simp⟩⟩
  · unfold maxLen at h3
    exact ⟨_, cap, rfl, ⟨Rd.of_own h, by simp, by omega, h3, hs⟩⟩
end Go.Proofs.YtaokhkbfiplfmaaDoor
end
section
namespace Go.Proofs.YtaokhkbfiplfmaaDoor
set_option linter.unusedVariables false
open Go.ChangeShapes Go.WideShapes Go.ChangeAt Go.RowKit

/-- At the address p lies the key k, its secret below block B. -/
structure KAt (w : World) (B : Nat) (p : Addr) (k : K) (S : Option Addr) (c : Nat) : Prop where
  c0 : w.cell? p = some (.int .i64 k.id)
  c1 : w.cell? ⟨p.block, p.off + 1, none⟩ = some (.slice S k.sec.length c)
  c2 : w.cell? ⟨p.block, p.off + 2, none⟩ = some (.int .i64 k.frm)
  c3 : w.cell? ⟨p.block, p.off + 3, none⟩ = some (.int .i64 k.til)
  bs : Bs w B k.sec S c
theorem KAt.below {w w' : World} {B B' : Nat} {p : Addr} {k : K} {S : Option Addr} {c : Nat} (h : KAt w B p k S c) (hp : p.block < B') (hB : B ≤ B') (hb : Below B' w w') : KAt w' B p k S c :=
  ⟨(hb.cell hp).trans h.c0, (hb.cell (p := ⟨p.block, p.off + 1, none⟩) hp).trans h.c1, (hb.cell (p := ⟨p.block, p.off + 2, none⟩) hp).trans h.c2, (hb.cell (p := ⟨p.block, p.off + 3, none⟩) hp).trans h.c3, h.bs.below (hb.mono hB)⟩
theorem KAt.more {w : World} {B B' : Nat} {p : Addr} {k : K} {S : Option Addr} {c : Nat} (h : KAt w B p k S c) (hB : B ≤ B') : KAt w B' p k S c := ⟨h.c0, h.c1, h.c2, h.c3, ⟨h.bs.rd.more hB, h.bs.nil, h.bs.len, h.bs.cap, h.bs.lt⟩⟩
/-- From the address A on lie the keys of l, four cells each, below block B. -/
def Ks (w : World) (B : Nat) (A : Option Addr) (l : List K) : Prop :=
  ∀ i, i < l.length → ∃ ad S c, A = some ad ∧ ad.block < B ∧ KAt w B (ad.add (i * 4)) (l.getD i K0) S c
theorem Ks.below {w w' : World} {B : Nat} {A : Option Addr} {l : List K} (h : Ks w B A l) (hb : Below B w w') : Ks w' B A l := by
  intro i hi
  obtain ⟨ad, S, c, e, hlt, hk⟩ := h i hi
  exact ⟨ad, S, c, e, hlt, hk.below (by rw [add_block]; exact hlt) (Nat.le_refl _) hb⟩
theorem Ks.more {w : World} {B B' : Nat} {A : Option Addr} {l : List K} (h : Ks w B A l) (hB : B ≤ B') : Ks w B' A l := by
  intro i hi
  obtain ⟨ad, S, c, e, hlt, hk⟩ := h i hi
  exact ⟨ad, S, c, e, by omega, hk.more hB⟩
theorem Ks.next {w w' : World} {A : Option Addr} {l : List K} (h : Ks w w.heap.size A l) (hb : Below w.heap.size w w') : Ks w' w'.heap.size A l := (h.below hb).more hb.size
end Go.Proofs.YtaokhkbfiplfmaaDoor
end
section
namespace Go.Proofs.YtaokhkbfiplfmaaDoor
set_option linter.unusedVariables false
open Go.ChangeShapes Go.WideShapes Go.ChangeAt Go.RowKit
end Go.Proofs.YtaokhkbfiplfmaaDoor
end
section
namespace Go.Proofs.YtaokhkbfiplfmaaDoor
set_option linter.unusedVariables false
open Go.ChangeShapes Go.WideShapes Go.ChangeAt Go.RowKit

/-- The key at place i is right, and of a greater number than the one ahead. -/
def goodAt (l : List K) (i : Nat) : Bool := (l.getD i K0).right && (i == 0 || decide ((l.getD (i - 1) K0).id < (l.getD i K0).id))
def isR (l : List K) : Bool := (List.range l.length).all (goodAt l)
theorem isR_true {l : List K} : isR l = true ↔ ∀ i, i < l.length → goodAt l i = true := by simp [isR]
theorem isR_false {l : List K} (i : Nat) (hi : i < l.length) (h : goodAt l i = false) : isR l = false := by
  cases e : isR l
  · rfl
  · have := isR_true.1 e i hi
    rw [h] at this; cases this
end Go.Proofs.YtaokhkbfiplfmaaDoor
end
section
namespace Go.Proofs.YtaokhkbfiplfmaaDoor
set_option linter.unusedVariables false
open Go.ChangeShapes Go.WideShapes Go.ChangeAt Go.RowKit

theorem Bs.empty (w : World) (B : Nat) : Bs w B [] none 0 := ⟨by intro k u hu; simp [U8] at hu, fun _ => rfl, by simp, by omega, by simp⟩

end Go.Proofs.YtaokhkbfiplfmaaDoor
end
section
namespace Go.Proofs.YtaokhkbfiplfmaaDoor
set_option linter.unusedVariables false
open Go.ChangeShapes Go.WideShapes Go.ChangeAt Go.RowKit

theorem results_row_tmp {P : Program} {fn : Func} {p u : Tmp} {ty : TypeId} (h : fn.results = #[.cell p ty, .tmp u]) (tmps : Array Value) (w : World) (g : Nat) (t : TypeId) (cs : Array Value) (fr : Nat × Nat) (d : TypeDesc)
    (hp : tmps.getD p undef = .pointer (some ⟨g, 0, none⟩)) (hg : w.heap[g]? = some (.cells cs t fr))
    (hu : P.underlying ty = some d) (hd : (match d with | .struct _ | .array _ _ => true | _ => false) = true) (hi : (P.info? ty).map (·.size) = some cs.size) :
    (results fn tmps).run P w = .ok (.tuple #[.agg cs, tmps.getD u undef]) w := by
  have hp' : tmps[p]?.getD undef = .pointer (some ⟨g, 0, none⟩) := by simpa using hp
  simp [results, h, hp', asAddr, run_loadVar_row w g t ty cs fr d hg hu hd hi]
theorem infoKey : (Tryd.prog.info? 26).map (·.size) = some 4 := by kernel_rfl
theorem kc_one (id : Int) (S : Option Addr) (n c : Nat) (f t : Int) : (#[Value.int .i64 id, .slice S n c, .int .i64 f, .int .i64 t] : Array Value).all (·.oneCell') = true := by
  rw [Array.all_eq_true_iff_forall_mem]
  intro u hu
  simp at hu
  rcases hu with rfl | rfl | rfl | rfl <;> rfl
end Go.Proofs.YtaokhkbfiplfmaaDoor
end
section
namespace Go.Proofs.YtaokhkbfiplfmaaDoor
set_option linter.unusedVariables false
open Go.ChangeShapes Go.WideShapes Go.ChangeAt Go.RowKit

/-- What Find answers. -/
def findK (l : List K) (id : Int) : K := if isR l = true then (l.find? fun k => k.id == id).getD K0 else K0
def findE (l : List K) (id : Int) : Int := if isR l = true then (if (l.find? fun k => k.id == id).isSome then 0 else 10) else 1
theorem find_at {l : List K} {p : K → Bool} (k : Nat) (hk : k < l.length) (h : ∀ j, j < k → p (l.getD j K0) = false) (hp : p (l.getD k K0) = true) : l.find? p = some (l.getD k K0) := by
  induction l generalizing k with
  | nil => simp at hk
  | cons x l ih =>
    cases k with
    | zero => simp at hp; simp [hp]
    | succ k =>
      have h0 := h 0 (by omega)
      simp at h0
      rw [List.find?_cons_of_neg (by simp [h0])]
      have := ih k (by simpa using hk) (fun j hj => by have := h (j + 1) (by omega); simpa using this) (by simpa using hp)
      simpa using this
theorem find_none {l : List K} {p : K → Bool} (h : ∀ j, j < l.length → p (l.getD j K0) = false) : l.find? p = none := by
  rw [List.find?_eq_none]
  intro x hx
  obtain ⟨j, hj, rfl⟩ := List.getElem_of_mem hx
  have := h j hj
  rw [List.getD_eq_getElem?_getD, List.getElem?_eq_getElem hj] at this
  simpa using this
end Go.Proofs.YtaokhkbfiplfmaaDoor
end
section
namespace Go.Proofs.YtaokhkbfiplfmaaDoor
set_option linter.unusedVariables false
open Go.ChangeShapes Go.WideShapes Go.ChangeAt Go.RowKit

/-- A key as it stands in memory: where its secret lies, and that one's capacity. -/
structure KV where
  k : K
  S : Option Addr
  c : Nat
def KV.cells (q : KV) : List Value := [.int .i64 q.k.id, .slice q.S q.k.sec.length q.c, .int .i64 q.k.frm, .int .i64 q.k.til]
def flatK (L : List KV) : List Value := L.flatMap KV.cells
theorem flatK_cons (q : KV) (L : List KV) : flatK (q :: L) = q.cells ++ flatK L := rfl
theorem length_flatK (L : List KV) : (flatK L).length = L.length * 4 := by
  induction L with
  | nil => rfl
  | cons q L ih => rw [flatK_cons, List.length_append, ih, List.length_cons]; simp [KV.cells]; omega
theorem flatK_at (L : List KV) (i j : Nat) (q : KV) (hq : L[i]? = some q) (hj : j < 4) : (flatK L)[i * 4 + j]? = q.cells[j]? := by
  induction L generalizing i with
  | nil => simp at hq
  | cons x L ih =>
    cases i with
    | zero =>
      simp at hq
      subst hq
      rw [flatK_cons, Nat.zero_mul, Nat.zero_add, List.getElem?_append_left (by simp [KV.cells]; omega)]
    | succ i =>
      rw [flatK_cons, List.getElem?_append_right (by simp [KV.cells]; omega)]
      have : (i + 1) * 4 + j - x.cells.length = i * 4 + j := by simp [KV.cells]; omega
      rw [this]
      exact ih i (by simpa using hq)
/-- What a call owns reads as keys. -/
theorem ks_of_own {w : World} {base g n cap : Nat} {L : List KV} (h : w.ownsRow base 26 4 (.slice (some ⟨g, 0, none⟩) n cap) n (flatK L)) (hs : ∀ q ∈ L, Bs w w.heap.size q.k.sec q.S q.c) : Ks w w.heap.size (some ⟨g, 0, none⟩) (L.map (·.k)) := by
  have hn : L.length = n := by
    have := h.1
    rw [length_flatK] at this
    omega
  have hg : g < w.heap.size := by
    rcases h.2 with ⟨h', _⟩ | ⟨g', cap', cur, h', _, hg, _⟩
    · simp at h'
    · simp only [Value.slice.injEq, Option.some.injEq, Addr.mk.injEq, and_true, true_and] at h'
      obtain ⟨rfl, rfl⟩ := h'
      exact (Array.getElem?_eq_some_iff.1 hg).1
  intro i hi
  have hi' : i < L.length := by simpa using hi
  have hq : L[i]? = some L[i] := List.getElem?_eq_getElem hi'
  have hk : (L.map (·.k)).getD i K0 = L[i].k := by
    rw [List.getD_eq_getElem?_getD, List.getElem?_map, hq]; rfl
  have hc : ∀ j, j < 4 → w.cell? ⟨g, i * 4 + j, none⟩ = (L[i]).cells[j]? := by
    intro j hj
    rw [h.cellAt _ (by omega), flatK_at L i j _ hq hj]
  rw [hk]
  refine ⟨_, (L[i]).S, (L[i]).c, rfl, hg, ?_⟩
  rw [at_add]
  exact ⟨hc 0 (by omega), hc 1 (by omega), hc 2 (by omega), hc 3 (by omega), hs _ (List.getElem_mem hi')⟩
/-- Keys that are read, with where their secrets lie. -/
def KVs (w : World) (B : Nat) (A : Option Addr) (L : List KV) : Prop := ∀ i q, L[i]? = some q → ∃ ad, A = some ad ∧ ad.block < B ∧ KAt w B (ad.add (i * 4)) q.k q.S q.c
theorem kvs_upto {w : World} {B : Nat} {A : Option Addr} {l : List K} (h : Ks w B A l) (n : Nat) : n ≤ l.length → ∃ L : List KV, L.length = n ∧ L.map (·.k) = l.take n ∧ KVs w B A L := by
  induction n with
  | zero => intro _; exact ⟨[], rfl, rfl, by intro i q hq; simp at hq⟩
  | succ n ih =>
    intro hn
    obtain ⟨L, h1, h2, h3⟩ := ih (by omega)
    obtain ⟨ad, S, c, e, hlt, hk⟩ := h n (by omega)
    refine ⟨L ++ [⟨l.getD n K0, S, c⟩], by simp [h1], ?_, ?_⟩
    · rw [List.map_append, h2, List.take_succ_eq_append_getElem (by omega), List.getD_eq_getElem?_getD, List.getElem?_eq_getElem (by omega)]; rfl
    · intro i q hq
      rcases Nat.lt_or_ge i n with hi | hi
      · rw [List.getElem?_append_left (by omega)] at hq
        exact h3 i q hq
      · rw [List.getElem?_append_right (by omega), h1] at hq
        have : i - n = 0 := by
          rcases Nat.eq_zero_or_pos (i - n) with h0 | h0
          · exact h0
          · rw [List.getElem?_eq_none (by simp; omega)] at hq; cases hq
        rw [this] at hq
        have e2 : i = n := by omega
        simp at hq
        subst hq e2
        exact ⟨ad, e, hlt, hk⟩
theorem kvs_of_ks {w : World} {B : Nat} {A : Option Addr} {l : List K} (h : Ks w B A l) : ∃ L : List KV, L.map (·.k) = l ∧ KVs w B A L ∧ ∀ q ∈ L, Bs w B q.k.sec q.S q.c := by
  obtain ⟨L, _, h2, h3⟩ := kvs_upto h l.length (Nat.le_refl _)
  refine ⟨L, by rw [h2, List.take_length], h3, ?_⟩
  intro q hq
  obtain ⟨i, hi⟩ := List.mem_iff_getElem?.1 hq
  obtain ⟨_, _, _, hk⟩ := h3 i q hi
  exact hk.bs
end Go.Proofs.YtaokhkbfiplfmaaDoor
end
section
namespace Go.Proofs.YtaokhkbfiplfmaaDoor

def placeN (l : List K) (id : Int) : Nat := (l.takeWhile fun q => decide (q.id < id)).length
/-- What Add answers. -/
def addK (l : List K) (k : K) : List K := if (isR l && k.right) = true then (if l.any (fun q => q.id == k.id) = true then [] else l.take (placeN l k.id) ++ k :: l.drop (placeN l k.id)) else []
def addE (l : List K) (k : K) : Int := if (isR l && k.right) = true then (if l.any (fun q => q.id == k.id) = true then 10 else 0) else 1

/-- A ring has at most a hundred keys. -/
theorem ring_len {l : List K} (h : isR l = true) : l.length ≤ 100 := by
  have hg := isR_true.1 h
  have hlow : ∀ i, i < l.length → (i : Int) ≤ (l.getD i K0).id ∧ (l.getD i K0).id ≤ 99 := by
    intro i
    induction i with
    | zero =>
      intro hi
      have := hg 0 hi
      simp only [goodAt, Bool.and_eq_true] at this
      have := (rightN_iff _ _ _ _).1 this.1
      omega
    | succ i ih =>
      intro hi
      have := hg (i + 1) hi
      simp only [goodAt, Bool.and_eq_true, Bool.or_eq_true, decide_eq_true_eq, beq_iff_eq, Nat.add_sub_cancel] at this
      have h1 := (rightN_iff _ _ _ _).1 this.1
      have h2 := ih (by omega)
      omega
  rcases Nat.lt_or_ge 100 l.length with h | h
  · have := hlow 100 h; omega
  · exact h
end Go.Proofs.YtaokhkbfiplfmaaDoor
end
section
namespace Go.Proofs.YtaokhkbfiplfmaaDoor
set_option linter.unusedVariables false
open Go.ChangeShapes Go.WideShapes Go.ChangeAt Go.RowKit
end Go.Proofs.YtaokhkbfiplfmaaDoor
end
section
namespace Go.Proofs.YtaokhkbfiplfmaaDoor

def Lt (a b : K) : Prop := a.id < b.id
theorem isR_iff (l : List K) : isR l = true ↔ (∀ x ∈ l, x.right = true) ∧ l.Pairwise Lt := by
  constructor
  · intro h
    have hg := isR_true.1 h
    have hd : ∀ i (hi : i < l.length), l.getD i K0 = l[i] := fun i hi => by rw [List.getD_eq_getElem?_getD, List.getElem?_eq_getElem hi]; rfl
    constructor
    · intro x hx
      obtain ⟨i, hi, rfl⟩ := List.getElem_of_mem hx
      have := hg i hi
      simp only [goodAt, Bool.and_eq_true] at this
      rw [← hd i hi]; exact this.1
    · rw [List.pairwise_iff_getElem]
      intro i j hi hj hij
      induction j with
      | zero => omega
      | succ j ih =>
        have := hg (j + 1) hj
        simp only [goodAt, Bool.and_eq_true, Bool.or_eq_true, decide_eq_true_eq, beq_iff_eq, Nat.add_sub_cancel] at this
        have h2 : (l.getD j K0).id < (l.getD (j + 1) K0).id := by
          rcases this.2 with h | h
          · omega
          · exact h
        rw [hd j (by omega), hd (j + 1) hj] at h2
        rcases Nat.lt_or_ge i j with h | h
        · have := ih (by omega) h
          unfold Lt at *
          omega
        · have e : i = j := by omega
          subst e
          exact h2
  · rintro ⟨h1, h2⟩
    rw [isR_true]
    intro i hi
    have hd : ∀ i (hi : i < l.length), l.getD i K0 = l[i] := fun i hi => by rw [List.getD_eq_getElem?_getD, List.getElem?_eq_getElem hi]; rfl
    rw [List.pairwise_iff_getElem] at h2
    rw [goodAt, hd i hi, h1 _ (List.getElem_mem hi), Bool.true_and]
    rcases Nat.eq_zero_or_pos i with h | h
    · subst h; rfl
    · have := h2 (i - 1) i (by omega) hi (by omega)
      rw [hd (i - 1) (by omega)]
      unfold Lt at this
      simp [this]
/-- A key put in its place. -/
def ins (k : K) : List K → List K
  | [] => [k]
  | x :: l => if x.id < k.id then x :: ins k l else k :: x :: l
theorem ins_place (k : K) (l : List K) : l.take (placeN l k.id) ++ k :: l.drop (placeN l k.id) = ins k l := by
  induction l with
  | nil => rfl
  | cons x l ih =>
    unfold placeN at *
    by_cases h : x.id < k.id
    · rw [List.takeWhile_cons_of_pos (by simpa using h), ins, if_pos h, ← ih]
      rfl
    · rw [List.takeWhile_cons_of_neg (by simpa using h), ins, if_neg h]
      rfl
theorem mem_ins (k : K) (l : List K) (x : K) : x ∈ ins k l ↔ x = k ∨ x ∈ l := by
  induction l with
  | nil => simp [ins]
  | cons y l ih =>
    unfold ins
    split
    · rw [List.mem_cons, ih, List.mem_cons]
      constructor
      · rintro (h | h | h) <;> simp [h]
      · rintro (h | h | h) <;> simp [h]
    · simp
theorem pw_ins (k : K) (l : List K) (h : l.Pairwise Lt) (hne : ∀ x ∈ l, x.id ≠ k.id) : (ins k l).Pairwise Lt := by
  induction l with
  | nil => simp [ins]
  | cons y l ih =>
    rw [List.pairwise_cons] at h
    unfold ins
    split
    · next hy =>
      rw [List.pairwise_cons]
      refine ⟨?_, ih h.2 (fun x hx => hne x (by simp [hx]))⟩
      intro x hx
      rcases (mem_ins k l x).1 hx with h' | h'
      · rw [h']; exact hy
      · exact h.1 x h'
    · next hy =>
      have hlt : k.id < y.id := by have := hne y (by simp); omega
      rw [List.pairwise_cons]
      refine ⟨?_, by rw [List.pairwise_cons]; exact h⟩
      intro x hx
      rcases List.mem_cons.1 hx with h' | h'
      · rw [h']; exact hlt
      · have := h.1 x h'
        unfold Lt at *
        omega
/-- What it is that a key was added. -/
theorem add_zero {l : List K} {k : K} (h : 0 = addE l k) : isR l = true ∧ k.right = true ∧ l.any (fun q => q.id == k.id) = false ∧ addK l k = ins k l ∧ isR (ins k l) = true := by
  unfold addE at h
  split at h
  · next h1 =>
    split at h
    · exact absurd h (by decide)
    · next h2 =>
      have h3 : isR l = true ∧ k.right = true := by simpa using h1
      have h4 : l.any (fun q => q.id == k.id) = false := by simpa using h2
      have hne : ∀ x ∈ l, x.id ≠ k.id := by
        intro x hx e
        rw [List.any_eq_false] at h4
        have := h4 x hx
        simp [e] at this
      refine ⟨h3.1, h3.2, h4, ?_, ?_⟩
      · rw [addK, if_pos h1, h4, ← ins_place]; rfl
      · have := (isR_iff l).1 h3.1
        rw [isR_iff]
        refine ⟨?_, pw_ins k l this.2 hne⟩
        intro x hx
        rcases (mem_ins k l x).1 hx with h' | h'
        · rw [h']; exact h3.2
        · exact this.1 x h'
  · exact absurd h (by decide)
end Go.Proofs.YtaokhkbfiplfmaaDoor
end
section
namespace Go.Proofs.YtaokhkbfiplfmaaDoor
set_option linter.unusedVariables false
open Go.ChangeShapes Go.WideShapes Go.ChangeAt Go.RowKit

theorem ret_int {k : IntKind} {a b : Int} (h : a = b) : Ending.returned (.int k a) = .returned (.int k b) := by rw [h]
theorem rot_bits (x : Nat) (n : Int) (hx : x < 4294967296) :
    bits BinOp.or IntKind.u32 ((x : Int) / 2 ^ (n % 32).toNat) ((x : Int) * 2 ^ (32 - n % 32).toNat % 4294967296) = ((itr (n % 32).toNat x : Nat) : Int) := by
  obtain ⟨k, hk⟩ : ∃ k : Nat, k = (n % 32).toNat := ⟨_, rfl⟩
  have e2 : (32 - n % 32).toNat = 32 - k := by omega
  rw [← hk, e2]
  have h1 : (x : Int) / 2 ^ k = ((x / 2 ^ k : Nat) : Int) := by simp
  have h2 : (x : Int) * 2 ^ (32 - k) % 4294967296 = ((x * 2 ^ (32 - k) % 4294967296 : Nat) : Int) := by simp
  rw [h1, h2, u32_or_nat _ _ (Nat.lt_of_le_of_lt (Nat.div_le_self _ _) hx) (Nat.mod_lt _ (by omega)), or_rot x k hx (by omega)]

theorem rot_any (x : Nat) (n : Int) (w : World) (hx : x < 4294967296) (hn0 : -9223372036854775808 ≤ n) (hn1 : n ≤ 9223372036854775807) :
    Calls Tryd.prog 86 #[.int .u32 x, .int .i64 n] w fun e w' => e = .returned (.int .u32 ((itr (n % 32).toNat x : Nat) : Int)) ∧ w = w' := by
  have hx' : (x : Int) ≤ 4294967295 := by omega
  go_enter Tryd.func86, Tryd.ntmps86
  go_wp2
  go_ret
  refine ⟨ret_int ?_, rfl⟩
  exact rot_bits x n hx
end Go.Proofs.YtaokhkbfiplfmaaDoor
end
section
namespace Go.Proofs.YtaokhkbfiplfmaaDoor
set_option linter.unusedVariables false
open Go.ChangeShapes Go.WideShapes Go.ChangeAt Go.RowKit

theorem xor32 (a b : Nat) (ha : a < 4294967296) (hb : b < 4294967296) : bits BinOp.xor IntKind.u32 (a : Int) (b : Int) = ((a ^^^ b : Nat) : Int) := u32_xor_nat a b ha hb

def leftN (n : Nat) : Nat := if n = 0 then 0 else 4294967296 - n
def left (v : Value) : Nat := leftN (intOf v).toNat
end Go.Proofs.YtaokhkbfiplfmaaDoor
end
section
namespace Go.Proofs.YtaokhkbfiplfmaaDoor
set_option linter.unusedVariables false
open Go.ChangeShapes Go.WideShapes Go.ChangeAt Go.RowKit

theorem rot_small (x : Nat) (n : Int) (w : World) (hx : x < 4294967296) (h0 : 0 ≤ n) (h : n < 32) :
    Calls Tryd.prog 86 #[.int .u32 x, .int .i64 n] w fun e w' => e = .returned (.int .u32 ((itr n.toNat x : Nat) : Int)) ∧ w = w' := by
  have h := rot_any x n w hx (by omega) (by omega)
  rw [show (n % 32).toNat = n.toNat by omega] at h
  exact h

theorem stirEarly_any (x : Nat) (w : World) (hx : x < 4294967296) :
    Calls Tryd.prog 76 #[.int .u32 x] w fun e w' => e = .returned (.int .u32 ((twoN x 7 18 8 : Nat) : Int)) ∧ w = w' := by
  have ha := itr_lt 7 hx
  have hb := itr_lt 18 hx
  have hq : x / 8 < 4294967296 := by omega
  go_enter Tryd.func76, Tryd.ntmps76
  go_wp2_with fail
  refine (rot_small x 7 _ hx (by omega) (by omega)).mono ?_
  rintro e w' ⟨rfl, rfl⟩
  go_wp2_with fail
  refine (rot_small x 18 _ hx (by omega) (by omega)).mono ?_
  rintro e w' ⟨rfl, rfl⟩
  go_wp2_with fail
  go_ret
  refine ⟨ret_int ?_, rfl⟩
  rw [show (x : Int) / 8 = ((x / 8 : Nat) : Int) by omega, xor32 _ _ ha hb, xor32 _ _ (xor_lt32 ha hb) hq]
  rfl

theorem stirLate_any (x : Nat) (w : World) (hx : x < 4294967296) :
    Calls Tryd.prog 77 #[.int .u32 x] w fun e w' => e = .returned (.int .u32 ((twoN x 17 19 1024 : Nat) : Int)) ∧ w = w' := by
  have ha := itr_lt 17 hx
  have hb := itr_lt 19 hx
  have hq : x / 1024 < 4294967296 := by omega
  go_enter Tryd.func77, Tryd.ntmps77
  go_wp2_with fail
  refine (rot_small x 17 _ hx (by omega) (by omega)).mono ?_
  rintro e w' ⟨rfl, rfl⟩
  go_wp2_with fail
  refine (rot_small x 19 _ hx (by omega) (by omega)).mono ?_
  rintro e w' ⟨rfl, rfl⟩
  go_wp2_with fail
  go_ret
  refine ⟨ret_int ?_, rfl⟩
  rw [show (x : Int) / 1024 = ((x / 1024 : Nat) : Int) by omega, xor32 _ _ ha hb, xor32 _ _ (xor_lt32 ha hb) hq]
  rfl

theorem turnLow_any (x : Nat) (w : World) (hx : x < 4294967296) :
    Calls Tryd.prog 78 #[.int .u32 x] w fun e w' => e = .returned (.int .u32 ((threeN x 6 11 25 : Nat) : Int)) ∧ w = w' := by
  have ha := itr_lt 6 hx
  have hb := itr_lt 11 hx
  have hc := itr_lt 25 hx
  go_enter Tryd.func78, Tryd.ntmps78
  go_wp2_with fail
  refine (rot_small x 6 _ hx (by omega) (by omega)).mono ?_
  rintro e w' ⟨rfl, rfl⟩
  go_wp2_with fail
  refine (rot_small x 11 _ hx (by omega) (by omega)).mono ?_
  rintro e w' ⟨rfl, rfl⟩
  go_wp2_with fail
  refine (rot_small x 25 _ hx (by omega) (by omega)).mono ?_
  rintro e w' ⟨rfl, rfl⟩
  go_wp2_with fail
  go_ret
  refine ⟨ret_int ?_, rfl⟩
  rw [xor32 _ _ ha hb, xor32 _ _ (xor_lt32 ha hb) hc]
  rfl

theorem turnHigh_any (x : Nat) (w : World) (hx : x < 4294967296) :
    Calls Tryd.prog 80 #[.int .u32 x] w fun e w' => e = .returned (.int .u32 ((threeN x 2 13 22 : Nat) : Int)) ∧ w = w' := by
  have ha := itr_lt 2 hx
  have hb := itr_lt 13 hx
  have hc := itr_lt 22 hx
  go_enter Tryd.func80, Tryd.ntmps80
  go_wp2_with fail
  refine (rot_small x 2 _ hx (by omega) (by omega)).mono ?_
  rintro e w' ⟨rfl, rfl⟩
  go_wp2_with fail
  refine (rot_small x 13 _ hx (by omega) (by omega)).mono ?_
  rintro e w' ⟨rfl, rfl⟩
  go_wp2_with fail
  refine (rot_small x 22 _ hx (by omega) (by omega)).mono ?_
  rintro e w' ⟨rfl, rfl⟩
  go_wp2_with fail
  go_ret
  refine ⟨ret_int ?_, rfl⟩
  rw [xor32 _ _ ha hb, xor32 _ _ (xor_lt32 ha hb) hc]
  rfl

theorem choose_nat (e f g : Nat) (he : e < 4294967296) (hf : f < 4294967296) (hg : g < 4294967296) : (e &&& f) ||| ((4294967295 ^^^ e) &&& g) = pk e f g 32 := by
  apply Nat.eq_of_testBit_eq
  intro j
  rw [testBit_pk, Nat.testBit_or, Nat.testBit_and, Nat.testBit_and, Nat.testBit_xor, show 4294967295 = 2 ^ 32 - 1 by rfl, Nat.testBit_two_pow_sub_one]
  by_cases h : j < 32
  · simp only [h, decide_true, Bool.true_and]
    cases e.testBit j <;> simp
  · have z : ∀ x : Nat, x < 4294967296 → x.testBit j = false := fun x hx => Nat.testBit_lt_two_pow (Nat.lt_of_lt_of_le hx (Nat.pow_le_pow_right (n := 2) (by omega) (show 32 ≤ j by omega)))
    simp [h, z e he, z f hf, z g hg]
theorem most_nat (a b c : Nat) (ha : a < 4294967296) (hb : b < 4294967296) (hc : c < 4294967296) : (a &&& b) ||| (a &&& c) ||| (b &&& c) = mj a b c 32 := by
  apply Nat.eq_of_testBit_eq
  intro j
  rw [testBit_mj]
  simp only [Nat.testBit_or, Nat.testBit_and]
  by_cases h : j < 32
  · simp only [h, decide_true, Bool.true_and]
  · have z : ∀ x : Nat, x < 4294967296 → x.testBit j = false := fun x hx => Nat.testBit_lt_two_pow (Nat.lt_of_lt_of_le hx (Nat.pow_le_pow_right (n := 2) (by omega) (show 32 ≤ j by omega)))
    simp [h, z a ha, z b hb, z c hc]

theorem and_lt32 {a b : Nat} (ha : a < 4294967296) : a &&& b < 4294967296 := Nat.lt_of_le_of_lt Nat.and_le_left ha
theorem or_lt32 {a b : Nat} (ha : a < 4294967296) (hb : b < 4294967296) : a ||| b < 4294967296 := Nat.or_lt_two_pow (n := 32) ha hb

theorem choose_any (e f g : Nat) (w : World) (he : e < 4294967296) (hf : f < 4294967296) (hg : g < 4294967296) :
    Calls Tryd.prog 79 #[.int .u32 e, .int .u32 f, .int .u32 g] w fun en w' => en = .returned (.int .u32 ((pk e f g 32 : Nat) : Int)) ∧ w = w' := by
  go_enter Tryd.func79, Tryd.ntmps79
  go_wp2
  go_ret
  refine ⟨ret_int ?_, rfl⟩
  have hm : IntKind.u32.max = ((4294967295 : Nat) : Int) := rfl
  rw [hm, xor32 _ _ (by omega) he, u32_and_nat _ _ he hf, u32_and_nat _ _ (xor_lt32 (by omega) he) hg, u32_or_nat _ _ (and_lt32 he) (and_lt32 (xor_lt32 (by omega) he)), choose_nat e f g he hf hg]

theorem pmost_any (a b c : Nat) (w : World) (ha : a < 4294967296) (hb : b < 4294967296) (hc : c < 4294967296) :
    Calls Tryd.prog 81 #[.int .u32 a, .int .u32 b, .int .u32 c] w fun en w' => en = .returned (.int .u32 ((mj a b c 32 : Nat) : Int)) ∧ w = w' := by
  go_enter Tryd.func81, Tryd.ntmps81
  go_wp2
  go_ret
  refine ⟨ret_int ?_, rfl⟩
  rw [u32_and_nat _ _ ha hb, u32_and_nat _ _ ha hc, u32_and_nat _ _ hb hc, u32_or_nat _ _ (and_lt32 ha) (and_lt32 ha), u32_or_nat _ _ (or_lt32 (and_lt32 ha) (and_lt32 ha)) (and_lt32 hb), most_nat a b c ha hb hc]
end Go.Proofs.YtaokhkbfiplfmaaDoor
end
section
namespace Go.Proofs.YtaokhkbfiplfmaaDoor
set_option linter.unusedVariables false
open Go.ChangeShapes Go.WideShapes Go.ChangeAt Go.RowKit

def St.val (v : St) : Value := .agg #[.int .u32 v.a, .int .u32 v.b, .int .u32 v.c, .int .u32 v.d, .int .u32 v.e, .int .u32 v.f, .int .u32 v.g, .int .u32 v.h]
/-- The beginning. -/
def beginN : St := ⟨1779033703, 3144134277, 1013904242, 2773480762, 1359893119, 2600822924, 528734635, 1541459225⟩
end Go.Proofs.YtaokhkbfiplfmaaDoor
end
section
namespace Go.Proofs.YtaokhkbfiplfmaaDoor
set_option linter.unusedVariables false
open Go.ChangeShapes Go.WideShapes Go.ChangeAt Go.RowKit

/-- A round, by the sum of its constant and its word. -/
def rndS (v : St) (kw : Nat) : St :=
  ⟨(v.h + threeN v.e 6 11 25 + pk v.e v.f v.g 32 + kw + (threeN v.a 2 13 22 + mj v.a v.b v.c 32)) % 4294967296, v.a, v.b, v.c, (v.d + (v.h + threeN v.e 6 11 25 + pk v.e v.f v.g 32 + kw)) % 4294967296, v.e, v.f, v.g⟩
theorem rndS_eq (v : St) (k w : Nat) : rndS v ((k + w) % 4294967296) = rnd v k w := by
  unfold rndS rnd t1N t2N
  congr 1
  · omega
  · omega
set_option maxRecDepth 100000 in
theorem round_any (V : St) (kw : Nat) (w : World) (hV : V.ok) (hk : kw < 4294967296) :
    Calls Tryd.prog 66 #[V.val, .int .u32 kw] w fun e w' => e = .returned (rndS V kw).val ∧ Below w.heap.size w w' := by
  obtain ⟨ba, bb, bc, bd, be, bf, bg, bh⟩ := hV
  unfold St.val
  go_enter Tryd.func66, Tryd.ntmps66
  go_wp2_with fail
  go_quiet (fail)
  go_wp2_with fail
  refine (turnLow_any _ _ be).mono ?_
  rintro e w' ⟨rfl, rfl⟩
  go_wp2_with fail
  refine (choose_any _ _ _ _ be bf bg).mono ?_
  rintro e w' ⟨rfl, rfl⟩
  go_wp2_with fail
  refine (turnHigh_any _ _ ba).mono ?_
  rintro e w' ⟨rfl, rfl⟩
  go_wp2_with fail
  refine (pmost_any _ _ _ _ ba bb bc).mono ?_
  rintro e w' ⟨rfl, rfl⟩
  go_wp2_with fail
  have ea : ((V.h : Int) + (threeN V.e 6 11 25 : Nat) + (pk V.e V.f V.g 32 : Nat) + (kw : Int) + ((threeN V.a 2 13 22 : Nat) + (mj V.a V.b V.c 32 : Nat))) % 4294967296 = (((rndS V kw).a : Nat) : Int) := by
    show _ = (((_ : Nat) % 4294967296 : Nat) : Int); omega
  have ee : ((V.d : Int) + ((V.h : Int) + (threeN V.e 6 11 25 : Nat) + (pk V.e V.f V.g 32 : Nat) + (kw : Int))) % 4294967296 = (((rndS V kw).e : Nat) : Int) := by
    show _ = (((_ : Nat) % 4294967296 : Nat) : Int); omega
  rw [ea, ee]
  have hle : w.heap.size ≤ w.heap.size + 1 := by omega
  refine bodyPost_ret (v := (rndS V kw).val) (by simp [results, Tryd.results66, go_sem, St.val, rndS]) rfl ⟨rfl, ?_⟩
  exact (((((((((below_drewN (((Below.refl _ _).alloc (Nat.le_refl _) _).alloc (by simp) _) _).setCell hle _).setCell hle _).setCell hle _).setCell hle _).setCell hle _).setCell hle _).setCell hle _).setCell hle _)
end Go.Proofs.YtaokhkbfiplfmaaDoor
end
section
namespace Go.Proofs.YtaokhkbfiplfmaaDoor
set_option linter.unusedVariables false
open Go.ChangeShapes Go.WideShapes Go.ChangeAt Go.RowKit

section
variable {P : Program} (w : World)
end
end Go.Proofs.YtaokhkbfiplfmaaDoor
end
section
namespace Go.Proofs.YtaokhkbfiplfmaaDoor
set_option linter.unusedVariables false
open Go.ChangeShapes Go.WideShapes Go.ChangeAt Go.RowKit

def agg16 (x0 x1 x2 x3 x4 x5 x6 x7 x8 x9 x10 x11 x12 x13 x14 x15 : Nat) : Value := .agg #[.int .u32 x0, .int .u32 x1, .int .u32 x2, .int .u32 x3, .int .u32 x4, .int .u32 x5, .int .u32 x6, .int .u32 x7, .int .u32 x8, .int .u32 x9, .int .u32 x10, .int .u32 x11, .int .u32 x12, .int .u32 x13, .int .u32 x14, .int .u32 x15]

def Row32 (wr : World) (base n : Nat) (xs : List Nat) (v : Value) : Prop := ∃ g cap, v = .slice (some ⟨g, 0, none⟩) n cap ∧ wr.ownsRow base 100 1 (.slice (some ⟨g, 0, none⟩) n cap) n (U32 xs)
theorem Row32.of {wr : World} {base n : Nat} {xs : List Nat} {v : Value} (h : wr.ownsRow base 100 1 v n (U32 xs)) (hn : 0 < n) : Row32 wr base n xs v := by
  obtain ⟨g, cap, e, _⟩ := h.form hn
  subst e
  exact ⟨g, cap, rfl, h⟩
theorem U32_getD (l : List Nat) (k : Nat) (h : k < l.length) : (U32 l)[k]? = some (.int .u32 ((l.getD k 0 : Nat) : Int)) := by
  rw [U32_at l k h, List.getD_eq_getElem?_getD, List.getElem?_eq_getElem h]; rfl
theorem row_lit {w : World} (cs : Array Value) (t : TypeId) : (w.alloc (.cells cs t)).heap[w.heap.size]? = some (.cells cs t (0, 0)) := heap_alloc_new w _
theorem set8 (w : World) (B : Nat) (V : St) (t : TypeId) (h : w.heap[B]? = some (.cells (U32 V.list).toArray t (0, 0))) (v0 v1 v2 v3 v4 v5 v6 v7 : Value) :
    ((((((((w.setCell ⟨B, 0, none⟩ v0).setCell ⟨B, 1, none⟩ v1).setCell ⟨B, 2, none⟩ v2).setCell ⟨B, 3, none⟩ v3).setCell ⟨B, 4, none⟩ v4).setCell ⟨B, 5, none⟩ v5).setCell ⟨B, 6, none⟩ v6).setCell ⟨B, 7, none⟩ v7).heap[B]? = some (.cells #[v0, v1, v2, v3, v4, v5, v6, v7] t (0, 0)) := by
  have h0 := heap_setCell_same w B 0 _ t v0 h
  have h1 := heap_setCell_same _ B 1 _ t v1 h0
  have h2 := heap_setCell_same _ B 2 _ t v2 h1
  have h3 := heap_setCell_same _ B 3 _ t v3 h2
  have h4 := heap_setCell_same _ B 4 _ t v4 h3
  have h5 := heap_setCell_same _ B 5 _ t v5 h4
  have h6 := heap_setCell_same _ B 6 _ t v6 h5
  have h7 := heap_setCell_same _ B 7 _ t v7 h6
  rw [h7]
  simp only [List.setIfInBounds_toArray, U32, St.list, List.map_cons, List.map_nil, List.set_cons_zero, List.set_cons_succ]
/-- The sums of the first k places, the others as they are. -/
def sumTo (v h : List Nat) (k : Nat) : List Nat := (List.range 8).map fun i => if i < k then (v.getD i 0 + h.getD i 0) % 4294967296 else v.getD i 0
theorem length_sumTo (v h : List Nat) (k : Nat) : (sumTo v h k).length = 8 := by simp [sumTo]
theorem sumTo_zero (V : St) (h : List Nat) : sumTo V.list h 0 = V.list := rfl
theorem sumTo_at (v h : List Nat) (k : Nat) : (sumTo v h k).getD k 0 = if k < 8 then v.getD k 0 else 0 := by
  rw [List.getD_eq_getElem?_getD]
  by_cases hk : k < 8
  · simp [sumTo, hk]
  · simp [sumTo, hk]
theorem sumTo_set (v h : List Nat) (k : Nat) : (sumTo v h k).set k ((v.getD k 0 + h.getD k 0) % 4294967296) = sumTo v h (k + 1) := by
  apply List.ext_getElem
  · simp [sumTo]
  · intro j h1 h2
    rw [List.getElem_set]
    simp only [sumTo, List.getElem_map, List.getElem_range]
    split
    · next e => subst e; simp
    · next e =>
      by_cases h3 : j < k
      · rw [if_pos h3, if_pos (by omega)]
      · rw [if_neg h3, if_neg (by omega)]
theorem getD_lt {l : List Nat} (hl : ∀ x ∈ l, x < 4294967296) (k : Nat) : l.getD k 0 < 4294967296 := by
  rw [List.getD_eq_getElem?_getD]
  rcases h : l[k]? with _ | y
  · simp
  · exact hl y (List.mem_of_getElem? h)
end Go.Proofs.YtaokhkbfiplfmaaDoor
end
