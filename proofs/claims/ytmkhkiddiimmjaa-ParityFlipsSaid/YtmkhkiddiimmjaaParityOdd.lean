/-
  Contract for the laws' constant check of layer 10, out of the contracts. Conditions: none.
-/
import Derived.Test.YtmkhkiddiimmjaaParityC
import Derived.Test.YtmkhkiddiimmjaaBitsEq
namespace Go.Proofs.Ytmkhkiddiimmjaa
set_option linter.unusedVariables false
open Go.ChangeShapes Go.WideShapes Go.ChangeAt Go.RowKit

set_option maxRecDepth 100000 in
set_option maxHeartbeats 1600000 in
theorem odd_any (C : PC) (w : World) : Calls Try.prog 12 #[] w fun e w' => e = .returned (.bool true) ∧ Below w.heap.size w w' := by
  have HBL := Lib.hid (Below.refl w.heap.size w)
  have heq : ∀ w, (Op.equalIn 10000 28 (.agg #[.bool b11.b0, .bool b11.b1, .bool b11.b2, .bool b11.b3, .bool b11.b4]) (.agg #[.bool true, .bool true, .bool false, .bool true, .bool false])).run Try.prog w = .ok true w := b5_same b11
  go_enter Try.func12, Try.ntmps12
  go_wp2_with fail
  refine (C.char 11 11 0 w (by unfold In64; decide) odd_c.1 odd_c.2.1).mono ?_
  rintro e w1 ⟨rfl, hb⟩
  replace HBL := Lib.hid (HBL.out.trans (hb.mono HBL.out.size))
  clear hb
  go_wp2_with fail
  refine (C.char 15 31 0 w1 (by unfold In64; decide) odd_c.2.2.1 odd_c.2.2.2.1).mono ?_
  rintro e w2 ⟨rfl, hb⟩
  replace HBL := Lib.hid (HBL.out.trans (hb.mono HBL.out.size))
  clear hb
  go_wp2_with fail
  refine (C.value 31 15 0 w2 (by unfold In64; decide) odd_c.2.2.2.2.1 odd_c.2.2.2.2.2.1).mono ?_
  rintro e w3 ⟨rfl, hb⟩
  replace HBL := Lib.hid (HBL.out.trans (hb.mono HBL.out.size))
  clear hb
  go_wp2_with fail
  refine (C.value 15 0 3 w3 (by unfold In64; decide) odd_c.2.2.2.2.2.2.1 odd_c.2.2.2.2.2.2.2.1).mono ?_
  rintro e w4 ⟨rfl, hb⟩
  replace HBL := Lib.hid (HBL.out.trans (hb.mono HBL.out.size))
  clear hb
  go_wp2_with fail
  refine (C.value 32 0 1 w4 (by unfold In64; decide) odd_c.2.2.2.2.2.2.2.2.1 odd_c.2.2.2.2.2.2.2.2.2.1).mono ?_
  rintro e w5 ⟨rfl, hb⟩
  replace HBL := Lib.hid (HBL.out.trans (hb.mono HBL.out.size))
  clear hb
  go_wp2_with fail
  obtain ⟨w6, hw⟩ : ∃ w6, w6 = w5.alloc (.cells #[.int .i64 11, .int .i64 3, .int .i64 15] 3) := ⟨_, rfl⟩
  rw [← hw]
  have hz : Zs w6 w6.heap.size [11, 3, 15] (some ⟨w5.heap.size, 0, none⟩) 3 := by rw [hw]; exact zs_lit w5 _ [11, 3, 15] 3 rfl rfl (by omega)
  have hb : Below w5.heap.size w5 w6 := by rw [hw]; exact below_lit w5 _ _
  replace HBL := Lib.hid (HBL.out.trans (hb.mono HBL.out.size))
  clear hb hw
  refine (C.sum [11, 3, 15] 3 _ 3 7 0 w6 rfl (by unfold In64; decide) odd_c.2.2.2.2.2.2.2.2.2.2.1 odd_c.2.2.2.2.2.2.2.2.2.2.2.1 hz).mono ?_
  rintro e w7 ⟨rfl, hb⟩
  replace HBL := Lib.hid (HBL.out.trans (hb.mono HBL.out.size))
  clear hb
  clear hz
  go_wp2_with fail
  obtain ⟨w8, hw⟩ : ∃ w8, w8 = w7.alloc (.cells #[.int .i64 1, .int .i64 16] 3) := ⟨_, rfl⟩
  rw [← hw]
  have hz : Zs w8 w8.heap.size [1, 16] (some ⟨w7.heap.size, 0, none⟩) 2 := by rw [hw]; exact zs_lit w7 _ [1, 16] 2 rfl rfl (by omega)
  have hb : Below w7.heap.size w7 w8 := by rw [hw]; exact below_lit w7 _ _
  replace HBL := Lib.hid (HBL.out.trans (hb.mono HBL.out.size))
  clear hb hw
  refine (C.sum [1, 16] 2 _ 2 0 1 w8 rfl (by unfold In64; decide) odd_c.2.2.2.2.2.2.2.2.2.2.2.2.1 odd_c.2.2.2.2.2.2.2.2.2.2.2.2.2.1 hz).mono ?_
  rintro e w9 ⟨rfl, hb⟩
  replace HBL := Lib.hid (HBL.out.trans (hb.mono HBL.out.size))
  clear hb
  clear hz
  go_wp2_with fail
  refine (C.bits 11 b11 0 w9 (by unfold In64; decide) odd_c.2.2.2.2.2.2.2.2.2.2.2.2.2.2.1 odd_c.2.2.2.2.2.2.2.2.2.2.2.2.2.2.2.1).mono ?_
  rintro e w10 ⟨rfl, hb⟩
  replace HBL := Lib.hid (HBL.out.trans (hb.mono HBL.out.size))
  clear hb
  go_wp2_with fail
  obtain ⟨w11, hw⟩ : ∃ w11, w11 = w10.alloc (.cells #[.bool b11.b0, .bool b11.b1, .bool b11.b2, .bool b11.b3, .bool b11.b4] 28) := ⟨_, rfl⟩
  rw [← hw]
  have hx : BBox w11 w10.heap.size (b11) := by rw [hw]; exact BBox.new w10 (b11)
  have hb : Below w10.heap.size w10 w11 := by rw [hw]; exact below_lit w10 _ _
  replace HBL := Lib.hid (HBL.out.trans (hb.mono HBL.out.size))
  have X1 := Lib.hid hx
  clear hx hb hw
  refine (C.of b11 11 w11 odd_c.2.2.2.2.2.2.2.2.2.2.2.2.2.2.2.2).mono ?_
  rintro e w12 ⟨rfl, hb⟩
  replace X1 := Lib.hid (X1.out.next hb)
  replace HBL := Lib.hid (HBL.out.trans (hb.mono HBL.out.size))
  clear hb
  go_wp2
  go_ret
  exact ⟨rfl, HBL.out⟩
end Go.Proofs.Ytmkhkiddiimmjaa
