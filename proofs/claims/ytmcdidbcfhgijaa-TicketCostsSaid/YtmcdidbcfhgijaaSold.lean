/-
  Contract for the laws' constant check of layer 9, out of the contracts. Conditions: none.
-/
import Derived.Test.YtmcdidbcfhgijaaTicketC
import Derived.Test.YtmcdidbcfhgijaaArr
namespace Go.Proofs.Ytmcdidbcfhgijaa
set_option linter.unusedVariables false
open Go.ChangeShapes Go.WideShapes Go.ChangeAt Go.RowKit

set_option maxRecDepth 100000 in
set_option maxHeartbeats 3200000 in
theorem plain_any (w : World) : Calls Try.prog 20 #[] w fun e w' => e = .returned (.agg #[.int .i64 7, .int .i64 2, .int .i64 20, .int .i64 30, .int .i64 2, .int .i64 0, .int .i64 0, .int .i64 100, .int .i64 7, .int .i64 2, .int .i64 0]) ∧ Below w.heap.size w w' := by
  go_enter Try.func20, Try.ntmps20
  go_wp2_with fail
  refine bodyPost_ret (results_row Try.results20 _ (w.alloc (.cells #[.int .i64 7, .int .i64 2, .int .i64 20, .int .i64 30, .int .i64 2, .int .i64 0, .int .i64 0, .int .i64 100, .int .i64 7, .int .i64 2, .int .i64 0] 23)) w.heap.size 23 #[.int .i64 7, .int .i64 2, .int .i64 20, .int .i64 30, .int .i64 2, .int .i64 0, .int .i64 0, .int .i64 100, .int .i64 7, .int .i64 2, .int .i64 0] (0, 0) _ rfl (heap_alloc_new w _) Try.underlying23 rfl infoTk) rfl ⟨rfl, below_lit w _ _⟩
set_option maxRecDepth 100000 in
set_option maxHeartbeats 3200000 in
theorem sold_any (C : TC) (w : World) : Calls Try.prog 11 #[] w fun e w' => e = .returned (.bool true) ∧ Below w.heap.size w w' := by
  have HBL := Lib.hid (Below.refl w.heap.size w)
  go_enter Try.func11, Try.ntmps11
  go_wp2_with fail
  refine (plain_any w).mono ?_
  rintro e w1 ⟨rfl, hb⟩
  replace HBL := Lib.hid (HBL.out.trans (hb.mono HBL.out.size))
  clear hb
  go_wp2_with fail
  have HS := Lib.hid HBL.out.size
  obtain ⟨w2, hw⟩ : ∃ w2, w2 = w1.alloc (.cells #[.int .i64 7, .int .i64 2, .int .i64 20, .int .i64 30, .int .i64 2, .int .i64 0, .int .i64 0, .int .i64 100, .int .i64 7, .int .i64 2, .int .i64 0] 23) := ⟨_, rfl⟩
  rw [← hw]
  have hx : TBox w2 w1.heap.size t1 := by rw [hw]; exact TBox.new w1 t1
  have hb : Below w1.heap.size w1 w2 := by rw [hw]; exact below_lit w1 _ _
  replace HBL := Lib.hid (HBL.out.trans (hb.mono HBL.out.size))
  have X1 := Lib.hid hx
  clear hx hb hw
  refine (C.last t1 106 0 w2 t1_in sold_c.1 sold_c.2.1).mono ?_
  rintro e w3 ⟨rfl, hb⟩
  replace X1 := Lib.hid (X1.out.next hb)
  replace HBL := Lib.hid (HBL.out.trans (hb.mono HBL.out.size))
  clear hb
  have c1_0 : w3.cell? ⟨_, 0, none⟩ = some (.int .i64 7) := X1.out.cells.1
  have c1_1 : w3.cell? ⟨_, 1, none⟩ = some (.int .i64 2) := X1.out.cells.2.1
  have c1_2 : w3.cell? ⟨_, 2, none⟩ = some (.int .i64 20) := X1.out.cells.2.2.1
  have c1_3 : w3.cell? ⟨_, 3, none⟩ = some (.int .i64 30) := X1.out.cells.2.2.2.1
  have c1_4 : w3.cell? ⟨_, 4, none⟩ = some (.int .i64 2) := X1.out.cells.2.2.2.2.1
  have c1_5 : w3.cell? ⟨_, 5, none⟩ = some (.int .i64 0) := X1.out.cells.2.2.2.2.2.1
  have c1_6 : w3.cell? ⟨_, 6, none⟩ = some (.int .i64 0) := X1.out.cells.2.2.2.2.2.2.1
  have c1_7 : w3.cell? ⟨_, 7, none⟩ = some (.int .i64 100) := X1.out.cells.2.2.2.2.2.2.2.1
  have c1_8 : w3.cell? ⟨_, 8, none⟩ = some (.int .i64 7) := X1.out.cells.2.2.2.2.2.2.2.2.1
  have c1_9 : w3.cell? ⟨_, 9, none⟩ = some (.int .i64 2) := X1.out.cells.2.2.2.2.2.2.2.2.2.1
  have c1_10 : w3.cell? ⟨_, 10, none⟩ = some (.int .i64 0) := X1.out.cells.2.2.2.2.2.2.2.2.2.2
  go_wp2_with fail
  refine (C.covers t1 25 true 0 w3 t1_in (by unfold In64; decide) sold_c.2.2.1 sold_c.2.2.2.1).mono ?_
  rintro e w4 ⟨rfl, hb⟩
  replace X1 := Lib.hid (X1.out.next hb)
  replace HBL := Lib.hid (HBL.out.trans (hb.mono HBL.out.size))
  clear hb
  have c2_0 : w4.cell? ⟨_, 0, none⟩ = some (.int .i64 7) := X1.out.cells.1
  have c2_1 : w4.cell? ⟨_, 1, none⟩ = some (.int .i64 2) := X1.out.cells.2.1
  have c2_2 : w4.cell? ⟨_, 2, none⟩ = some (.int .i64 20) := X1.out.cells.2.2.1
  have c2_3 : w4.cell? ⟨_, 3, none⟩ = some (.int .i64 30) := X1.out.cells.2.2.2.1
  have c2_4 : w4.cell? ⟨_, 4, none⟩ = some (.int .i64 2) := X1.out.cells.2.2.2.2.1
  have c2_5 : w4.cell? ⟨_, 5, none⟩ = some (.int .i64 0) := X1.out.cells.2.2.2.2.2.1
  have c2_6 : w4.cell? ⟨_, 6, none⟩ = some (.int .i64 0) := X1.out.cells.2.2.2.2.2.2.1
  have c2_7 : w4.cell? ⟨_, 7, none⟩ = some (.int .i64 100) := X1.out.cells.2.2.2.2.2.2.2.1
  have c2_8 : w4.cell? ⟨_, 8, none⟩ = some (.int .i64 7) := X1.out.cells.2.2.2.2.2.2.2.2.1
  have c2_9 : w4.cell? ⟨_, 9, none⟩ = some (.int .i64 2) := X1.out.cells.2.2.2.2.2.2.2.2.2.1
  have c2_10 : w4.cell? ⟨_, 10, none⟩ = some (.int .i64 0) := X1.out.cells.2.2.2.2.2.2.2.2.2.2
  go_wp2_with fail
  refine (C.covers t1 31 false 0 w4 t1_in (by unfold In64; decide) sold_c.2.2.2.2.1 sold_c.2.2.2.2.2.1).mono ?_
  rintro e w5 ⟨rfl, hb⟩
  replace X1 := Lib.hid (X1.out.next hb)
  replace HBL := Lib.hid (HBL.out.trans (hb.mono HBL.out.size))
  clear hb
  have c3_0 : w5.cell? ⟨_, 0, none⟩ = some (.int .i64 7) := X1.out.cells.1
  have c3_1 : w5.cell? ⟨_, 1, none⟩ = some (.int .i64 2) := X1.out.cells.2.1
  have c3_2 : w5.cell? ⟨_, 2, none⟩ = some (.int .i64 20) := X1.out.cells.2.2.1
  have c3_3 : w5.cell? ⟨_, 3, none⟩ = some (.int .i64 30) := X1.out.cells.2.2.2.1
  have c3_4 : w5.cell? ⟨_, 4, none⟩ = some (.int .i64 2) := X1.out.cells.2.2.2.2.1
  have c3_5 : w5.cell? ⟨_, 5, none⟩ = some (.int .i64 0) := X1.out.cells.2.2.2.2.2.1
  have c3_6 : w5.cell? ⟨_, 6, none⟩ = some (.int .i64 0) := X1.out.cells.2.2.2.2.2.2.1
  have c3_7 : w5.cell? ⟨_, 7, none⟩ = some (.int .i64 100) := X1.out.cells.2.2.2.2.2.2.2.1
  have c3_8 : w5.cell? ⟨_, 8, none⟩ = some (.int .i64 7) := X1.out.cells.2.2.2.2.2.2.2.2.1
  have c3_9 : w5.cell? ⟨_, 9, none⟩ = some (.int .i64 2) := X1.out.cells.2.2.2.2.2.2.2.2.2.1
  have c3_10 : w5.cell? ⟨_, 10, none⟩ = some (.int .i64 0) := X1.out.cells.2.2.2.2.2.2.2.2.2.2
  go_wp2_with fail
  refine (C.price t1 666 0 w5 t1_in sold_c.2.2.2.2.2.2.1 sold_c.2.1).mono ?_
  rintro e w6 ⟨rfl, hb⟩
  replace X1 := Lib.hid (X1.out.next hb)
  replace HBL := Lib.hid (HBL.out.trans (hb.mono HBL.out.size))
  clear hb
  have c4_0 : w6.cell? ⟨_, 0, none⟩ = some (.int .i64 7) := X1.out.cells.1
  have c4_1 : w6.cell? ⟨_, 1, none⟩ = some (.int .i64 2) := X1.out.cells.2.1
  have c4_2 : w6.cell? ⟨_, 2, none⟩ = some (.int .i64 20) := X1.out.cells.2.2.1
  have c4_3 : w6.cell? ⟨_, 3, none⟩ = some (.int .i64 30) := X1.out.cells.2.2.2.1
  have c4_4 : w6.cell? ⟨_, 4, none⟩ = some (.int .i64 2) := X1.out.cells.2.2.2.2.1
  have c4_5 : w6.cell? ⟨_, 5, none⟩ = some (.int .i64 0) := X1.out.cells.2.2.2.2.2.1
  have c4_6 : w6.cell? ⟨_, 6, none⟩ = some (.int .i64 0) := X1.out.cells.2.2.2.2.2.2.1
  have c4_7 : w6.cell? ⟨_, 7, none⟩ = some (.int .i64 100) := X1.out.cells.2.2.2.2.2.2.2.1
  have c4_8 : w6.cell? ⟨_, 8, none⟩ = some (.int .i64 7) := X1.out.cells.2.2.2.2.2.2.2.2.1
  have c4_9 : w6.cell? ⟨_, 9, none⟩ = some (.int .i64 2) := X1.out.cells.2.2.2.2.2.2.2.2.2.1
  have c4_10 : w6.cell? ⟨_, 10, none⟩ = some (.int .i64 0) := X1.out.cells.2.2.2.2.2.2.2.2.2.2
  go_wp2_with fail
  have HN := Lib.hid (show w6.heap.size ≠ w1.heap.size by have := X1.out.lt; omega)
  obtain ⟨w7, hw⟩ : ∃ w7, w7 = w6.alloc (.cells #[.int .i64 7, .int .i64 3, .int .i64 1, .int .i64 2, .int .i64 1, .int .i64 2, .int .i64 0, .int .i64 100, .int .i64 10, .int .i64 0, .int .i64 0] 23) := ⟨_, rfl⟩
  rw [← hw]
  have hx : TBox w7 w6.heap.size t2 := by rw [hw]; exact TBox.new w6 t2
  have hb : Below w6.heap.size w6 w7 := by rw [hw]; exact below_lit w6 _ _
  replace X1 := Lib.hid (X1.out.next hb)
  replace HBL := Lib.hid (HBL.out.trans (hb.mono HBL.out.size))
  have X2 := Lib.hid hx
  clear hx hb hw
  refine (C.price t2 2060 0 w7 t2_in sold_c.2.2.2.2.2.2.2.1 sold_c.2.2.2.2.2.2.2.2.1).mono ?_
  rintro e w8 ⟨rfl, hb⟩
  replace X1 := Lib.hid (X1.out.next hb)
  replace X2 := Lib.hid (X2.out.next hb)
  replace HBL := Lib.hid (HBL.out.trans (hb.mono HBL.out.size))
  clear hb
  have c5_0 : w8.cell? ⟨_, 0, none⟩ = some (.int .i64 7) := X2.out.cells.1
  have c5_1 : w8.cell? ⟨_, 1, none⟩ = some (.int .i64 3) := X2.out.cells.2.1
  have c5_2 : w8.cell? ⟨_, 2, none⟩ = some (.int .i64 1) := X2.out.cells.2.2.1
  have c5_3 : w8.cell? ⟨_, 3, none⟩ = some (.int .i64 2) := X2.out.cells.2.2.2.1
  have c5_4 : w8.cell? ⟨_, 4, none⟩ = some (.int .i64 1) := X2.out.cells.2.2.2.2.1
  have c5_5 : w8.cell? ⟨_, 5, none⟩ = some (.int .i64 2) := X2.out.cells.2.2.2.2.2.1
  have c5_6 : w8.cell? ⟨_, 6, none⟩ = some (.int .i64 0) := X2.out.cells.2.2.2.2.2.2.1
  have c5_7 : w8.cell? ⟨_, 7, none⟩ = some (.int .i64 100) := X2.out.cells.2.2.2.2.2.2.2.1
  have c5_8 : w8.cell? ⟨_, 8, none⟩ = some (.int .i64 10) := X2.out.cells.2.2.2.2.2.2.2.2.1
  have c5_9 : w8.cell? ⟨_, 9, none⟩ = some (.int .i64 0) := X2.out.cells.2.2.2.2.2.2.2.2.2.1
  have c5_10 : w8.cell? ⟨_, 10, none⟩ = some (.int .i64 0) := X2.out.cells.2.2.2.2.2.2.2.2.2.2
  go_wp2_with fail
  refine (C.covers t2 16 true 0 w8 t2_in (by unfold In64; decide) sold_c.2.2.2.2.2.2.2.2.2.1 sold_c.2.2.2.2.2.2.2.2.2.2.1).mono ?_
  rintro e w9 ⟨rfl, hb⟩
  replace X1 := Lib.hid (X1.out.next hb)
  replace X2 := Lib.hid (X2.out.next hb)
  replace HBL := Lib.hid (HBL.out.trans (hb.mono HBL.out.size))
  clear hb
  have c6_0 : w9.cell? ⟨_, 0, none⟩ = some (.int .i64 7) := X1.out.cells.1
  have c6_1 : w9.cell? ⟨_, 1, none⟩ = some (.int .i64 2) := X1.out.cells.2.1
  have c6_2 : w9.cell? ⟨_, 2, none⟩ = some (.int .i64 20) := X1.out.cells.2.2.1
  have c6_3 : w9.cell? ⟨_, 3, none⟩ = some (.int .i64 30) := X1.out.cells.2.2.2.1
  have c6_4 : w9.cell? ⟨_, 4, none⟩ = some (.int .i64 2) := X1.out.cells.2.2.2.2.1
  have c6_5 : w9.cell? ⟨_, 5, none⟩ = some (.int .i64 0) := X1.out.cells.2.2.2.2.2.1
  have c6_6 : w9.cell? ⟨_, 6, none⟩ = some (.int .i64 0) := X1.out.cells.2.2.2.2.2.2.1
  have c6_7 : w9.cell? ⟨_, 7, none⟩ = some (.int .i64 100) := X1.out.cells.2.2.2.2.2.2.2.1
  have c6_8 : w9.cell? ⟨_, 8, none⟩ = some (.int .i64 7) := X1.out.cells.2.2.2.2.2.2.2.2.1
  have c6_9 : w9.cell? ⟨_, 9, none⟩ = some (.int .i64 2) := X1.out.cells.2.2.2.2.2.2.2.2.2.1
  have c6_10 : w9.cell? ⟨_, 10, none⟩ = some (.int .i64 0) := X1.out.cells.2.2.2.2.2.2.2.2.2.2
  have fz := X1.out.frozen
  go_wp2_with fail
  obtain ⟨w10, hw⟩ : ∃ w10, w10 = w9.setCell ⟨w1.heap.size, 9, none⟩ (.int .i64 1) := ⟨_, rfl⟩
  rw [← hw]
  have hx : TBox w10 w1.heap.size t3 := by rw [hw]; exact X1.out.setUses 1
  replace X2 := Lib.hid (show TBox w10 w6.heap.size t2 by rw [hw]; exact X2.out.setAt _ HN.out)
  replace X1 := Lib.hid hx
  replace HBL := Lib.hid (show Below w.heap.size w w10 by rw [hw]; exact HBL.out.setCell HS.out _)
  clear hx hw fz
  refine (C.last t3 0 1 w10 t3_in sold_c.2.2.2.2.2.2.2.2.2.2.2.1 sold_c.2.2.2.2.2.2.2.2.2.2.2.2.1).mono ?_
  rintro e w11 ⟨rfl, hb⟩
  replace X1 := Lib.hid (X1.out.next hb)
  replace X2 := Lib.hid (X2.out.next hb)
  replace HBL := Lib.hid (HBL.out.trans (hb.mono HBL.out.size))
  clear hb
  have c7_0 : w11.cell? ⟨_, 0, none⟩ = some (.int .i64 7) := X2.out.cells.1
  have c7_1 : w11.cell? ⟨_, 1, none⟩ = some (.int .i64 3) := X2.out.cells.2.1
  have c7_2 : w11.cell? ⟨_, 2, none⟩ = some (.int .i64 1) := X2.out.cells.2.2.1
  have c7_3 : w11.cell? ⟨_, 3, none⟩ = some (.int .i64 2) := X2.out.cells.2.2.2.1
  have c7_4 : w11.cell? ⟨_, 4, none⟩ = some (.int .i64 1) := X2.out.cells.2.2.2.2.1
  have c7_5 : w11.cell? ⟨_, 5, none⟩ = some (.int .i64 2) := X2.out.cells.2.2.2.2.2.1
  have c7_6 : w11.cell? ⟨_, 6, none⟩ = some (.int .i64 0) := X2.out.cells.2.2.2.2.2.2.1
  have c7_7 : w11.cell? ⟨_, 7, none⟩ = some (.int .i64 100) := X2.out.cells.2.2.2.2.2.2.2.1
  have c7_8 : w11.cell? ⟨_, 8, none⟩ = some (.int .i64 10) := X2.out.cells.2.2.2.2.2.2.2.2.1
  have c7_9 : w11.cell? ⟨_, 9, none⟩ = some (.int .i64 0) := X2.out.cells.2.2.2.2.2.2.2.2.2.1
  have c7_10 : w11.cell? ⟨_, 10, none⟩ = some (.int .i64 0) := X2.out.cells.2.2.2.2.2.2.2.2.2.2
  go_wp2_with fail
  refine (C.is t2 true w11 t2_in sold_c.2.2.2.2.2.2.2.2.2.2.2.2.2.1).mono ?_
  rintro e w12 ⟨rfl, hb⟩
  replace X1 := Lib.hid (X1.out.next hb)
  replace X2 := Lib.hid (X2.out.next hb)
  replace HBL := Lib.hid (HBL.out.trans (hb.mono HBL.out.size))
  clear hb
  have c8_0 : w12.cell? ⟨_, 0, none⟩ = some (.int .i64 7) := X1.out.cells.1
  have c8_1 : w12.cell? ⟨_, 1, none⟩ = some (.int .i64 2) := X1.out.cells.2.1
  have c8_2 : w12.cell? ⟨_, 2, none⟩ = some (.int .i64 20) := X1.out.cells.2.2.1
  have c8_3 : w12.cell? ⟨_, 3, none⟩ = some (.int .i64 30) := X1.out.cells.2.2.2.1
  have c8_4 : w12.cell? ⟨_, 4, none⟩ = some (.int .i64 2) := X1.out.cells.2.2.2.2.1
  have c8_5 : w12.cell? ⟨_, 5, none⟩ = some (.int .i64 0) := X1.out.cells.2.2.2.2.2.1
  have c8_6 : w12.cell? ⟨_, 6, none⟩ = some (.int .i64 0) := X1.out.cells.2.2.2.2.2.2.1
  have c8_7 : w12.cell? ⟨_, 7, none⟩ = some (.int .i64 100) := X1.out.cells.2.2.2.2.2.2.2.1
  have c8_8 : w12.cell? ⟨_, 8, none⟩ = some (.int .i64 7) := X1.out.cells.2.2.2.2.2.2.2.2.1
  have c8_9 : w12.cell? ⟨_, 9, none⟩ = some (.int .i64 1) := X1.out.cells.2.2.2.2.2.2.2.2.2.1
  have c8_10 : w12.cell? ⟨_, 10, none⟩ = some (.int .i64 0) := X1.out.cells.2.2.2.2.2.2.2.2.2.2
  go_wp2_with fail
  refine (C.is t3 false w12 t3_in sold_c.2.2.2.2.2.2.2.2.2.2.2.2.2.2).mono ?_
  rintro e w13 ⟨rfl, hb⟩
  replace X1 := Lib.hid (X1.out.next hb)
  replace X2 := Lib.hid (X2.out.next hb)
  replace HBL := Lib.hid (HBL.out.trans (hb.mono HBL.out.size))
  clear hb
  go_wp2
  go_ret
  exact ⟨rfl, HBL.out⟩
end Go.Proofs.Ytmcdidbcfhgijaa
