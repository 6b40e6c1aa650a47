/-
  The laws' constant check of layer 14. Conditions: none.
-/
import Derived.Test.YtjlcaobffhihhaaSwipePRead
import Derived.Test.YtjlcaobffhihhaaTrackPPut
import Derived.Test.YtjlcaobffhihhaaSameBs
namespace Go.Proofs.Ytjlcaobffhihhaa
set_option linter.unusedVariables false
open Go.ChangeShapes Go.WideShapes Go.ChangeAt Go.RowKit

theorem swiped_c0 : putE [1, 9] = 0 := by kernel_rfl
theorem swiped_c1 : putL [1, 9] = [212, 39, 243, 128] := by kernel_rfl
theorem swiped_c2 : turnL [212, 39, 243, 128] = [1, 207, 228, 43] := by kernel_rfl
theorem swiped_c3 : readE [1, 207, 228, 43] = 0 := by kernel_rfl
theorem swiped_c4 : readO [1, 207, 228, 43] = true := by kernel_rfl
theorem swiped_c5 : readL [1, 207, 228, 43] = [1, 9] := by kernel_rfl
theorem swiped_c6 : readE [212, 39, 243, 128] = 0 := by kernel_rfl
theorem swiped_c7 : readO [212, 39, 243, 128] = false := by kernel_rfl
theorem swiped_c8 : readL [212, 39, 243, 128] = [1, 9] := by kernel_rfl
theorem swiped_c9 : turnL [32, 96, 0] = [0, 6, 4] := by kernel_rfl
theorem swiped_c10 : readE [0, 0] = 4 := by kernel_rfl
theorem swiped_c11 : readO [0, 0] = false := by kernel_rfl
theorem swiped_c12 : readL [0, 0] = [] := by kernel_rfl
set_option maxRecDepth 100000 in
set_option maxHeartbeats 1600000 in
theorem swiped_any (w : World) : Calls Try.prog 8 #[] w fun e w' => e = .returned (.bool true) ∧ Below w.heap.size w w' := by
  have HBL := Lib.hid (Below.refl w.heap.size w)
  go_enter Try.func8, Try.ntmps8
  go_wp2_with fail
  obtain ⟨w1, hw⟩ : ∃ w1, w1 = w.alloc (.cells #[.int .u8 1, .int .u8 9] 5) := ⟨_, rfl⟩
  rw [← hw]
  have hx : Bs w1 w1.heap.size [1, 9] (some ⟨w.heap.size, 0, none⟩) 2 := by rw [hw]; exact bs_lit w _ [1, 9] 2 rfl rfl (by omega) (by decide)
  have hb : Below w.heap.size w w1 := by rw [hw]; exact below_lit w _ _
  replace HBL := Lib.hid (HBL.out.trans (hb.mono HBL.out.size))
  have L1 := Lib.hid hx
  clear hx hb hw
  refine (pput_any [1, 9] 2 rfl (by omega) 0 swiped_c0 [212, 39, 243, 128] swiped_c1 _ 2 w1 L1.out).mono ?_
  rintro e w2 ⟨AP1, cP1, rfl, hs, hb⟩
  replace L1 := Lib.hid (L1.out.next hb)
  replace HBL := Lib.hid (HBL.out.trans (hb.mono HBL.out.size))
  have P1 := Lib.hid hs
  clear hb hs
  go_wp2_with fail
  refine (pturn_any [212, 39, 243, 128] 4 rfl (by omega) AP1 cP1 w2 P1.out).mono ?_
  rintro e w3 ⟨AT1, cT1, rfl, hs, hb⟩
  replace L1 := Lib.hid (L1.out.next hb)
  replace P1 := Lib.hid (P1.out.next hb)
  replace HBL := Lib.hid (HBL.out.trans (hb.mono HBL.out.size))
  have T1 := Lib.hid hs
  clear hb hs
  rw [swiped_c2] at T1
  go_wp2_with fail
  refine (pread_any [1, 207, 228, 43] 4 rfl (by omega) 0 swiped_c3 true swiped_c4 [1, 9] swiped_c5 AT1 cT1 w3 T1.out).mono ?_
  rintro e w4 ⟨AR1, cR1, rfl, hs, hb⟩
  replace L1 := Lib.hid (L1.out.next hb)
  replace P1 := Lib.hid (P1.out.next hb)
  replace T1 := Lib.hid (T1.out.next hb)
  replace HBL := Lib.hid (HBL.out.trans (hb.mono HBL.out.size))
  have R1 := Lib.hid hs
  clear hb hs
  go_wp2_with fail
  refine (pread_any [212, 39, 243, 128] 4 rfl (by omega) 0 swiped_c6 false swiped_c7 [1, 9] swiped_c8 AP1 cP1 w4 P1.out).mono ?_
  rintro e w5 ⟨AR2, cR2, rfl, hs, hb⟩
  replace L1 := Lib.hid (L1.out.next hb)
  replace P1 := Lib.hid (P1.out.next hb)
  replace T1 := Lib.hid (T1.out.next hb)
  replace R1 := Lib.hid (R1.out.next hb)
  replace HBL := Lib.hid (HBL.out.trans (hb.mono HBL.out.size))
  have R2 := Lib.hid hs
  clear hb hs
  go_wp2_with fail
  obtain ⟨w6, hw⟩ : ∃ w6, w6 = w5.alloc (.cells #[.int .u8 32, .int .u8 96, .int .u8 0] 5) := ⟨_, rfl⟩
  rw [← hw]
  have hx : Bs w6 w6.heap.size [32, 96, 0] (some ⟨w5.heap.size, 0, none⟩) 3 := by rw [hw]; exact bs_lit w5 _ [32, 96, 0] 3 rfl rfl (by omega) (by decide)
  have hb : Below w5.heap.size w5 w6 := by rw [hw]; exact below_lit w5 _ _
  replace L1 := Lib.hid (L1.out.next hb)
  replace P1 := Lib.hid (P1.out.next hb)
  replace T1 := Lib.hid (T1.out.next hb)
  replace R1 := Lib.hid (R1.out.next hb)
  replace R2 := Lib.hid (R2.out.next hb)
  replace HBL := Lib.hid (HBL.out.trans (hb.mono HBL.out.size))
  have L2 := Lib.hid hx
  clear hx hb hw
  refine (pturn_any [32, 96, 0] 3 rfl (by omega) _ 3 w6 L2.out).mono ?_
  rintro e w7 ⟨AT2, cT2, rfl, hs, hb⟩
  replace L1 := Lib.hid (L1.out.next hb)
  replace P1 := Lib.hid (P1.out.next hb)
  replace T1 := Lib.hid (T1.out.next hb)
  replace R1 := Lib.hid (R1.out.next hb)
  replace R2 := Lib.hid (R2.out.next hb)
  replace L2 := Lib.hid (L2.out.next hb)
  replace HBL := Lib.hid (HBL.out.trans (hb.mono HBL.out.size))
  have T2 := Lib.hid hs
  clear hb hs
  rw [swiped_c9] at T2
  go_wp2_with fail
  obtain ⟨w8, hw⟩ : ∃ w8, w8 = w7.alloc (.cells #[.int .u8 0, .int .u8 0] 5) := ⟨_, rfl⟩
  rw [← hw]
  have hx : Bs w8 w8.heap.size [0, 0] (some ⟨w7.heap.size, 0, none⟩) 2 := by rw [hw]; exact bs_lit w7 _ [0, 0] 2 rfl rfl (by omega) (by decide)
  have hb : Below w7.heap.size w7 w8 := by rw [hw]; exact below_lit w7 _ _
  replace L1 := Lib.hid (L1.out.next hb)
  replace P1 := Lib.hid (P1.out.next hb)
  replace T1 := Lib.hid (T1.out.next hb)
  replace R1 := Lib.hid (R1.out.next hb)
  replace R2 := Lib.hid (R2.out.next hb)
  replace L2 := Lib.hid (L2.out.next hb)
  replace T2 := Lib.hid (T2.out.next hb)
  replace HBL := Lib.hid (HBL.out.trans (hb.mono HBL.out.size))
  have L3 := Lib.hid hx
  clear hx hb hw
  refine (pread_any [0, 0] 2 rfl (by omega) 4 swiped_c10 false swiped_c11 [] swiped_c12 _ 2 w8 L3.out).mono ?_
  rintro e w9 ⟨AR3, cR3, rfl, hs, hb⟩
  replace L1 := Lib.hid (L1.out.next hb)
  replace P1 := Lib.hid (P1.out.next hb)
  replace T1 := Lib.hid (T1.out.next hb)
  replace R1 := Lib.hid (R1.out.next hb)
  replace R2 := Lib.hid (R2.out.next hb)
  replace L2 := Lib.hid (L2.out.next hb)
  replace T2 := Lib.hid (T2.out.next hb)
  replace L3 := Lib.hid (L3.out.next hb)
  replace HBL := Lib.hid (HBL.out.trans (hb.mono HBL.out.size))
  have R3 := Lib.hid hs
  clear hb hs
  go_wp2_with fail
  obtain ⟨w10, hw⟩ : ∃ w10, w10 = w9.alloc (.cells #[.int .u8 1, .int .u8 207, .int .u8 228, .int .u8 43] 5) := ⟨_, rfl⟩
  rw [← hw]
  have hx : Bs w10 w10.heap.size [1, 207, 228, 43] (some ⟨w9.heap.size, 0, none⟩) 4 := by rw [hw]; exact bs_lit w9 _ [1, 207, 228, 43] 4 rfl rfl (by omega) (by decide)
  have hb : Below w9.heap.size w9 w10 := by rw [hw]; exact below_lit w9 _ _
  replace L1 := Lib.hid (L1.out.next hb)
  replace P1 := Lib.hid (P1.out.next hb)
  replace T1 := Lib.hid (T1.out.next hb)
  replace R1 := Lib.hid (R1.out.next hb)
  replace R2 := Lib.hid (R2.out.next hb)
  replace L2 := Lib.hid (L2.out.next hb)
  replace T2 := Lib.hid (T2.out.next hb)
  replace L3 := Lib.hid (L3.out.next hb)
  replace R3 := Lib.hid (R3.out.next hb)
  replace HBL := Lib.hid (HBL.out.trans (hb.mono HBL.out.size))
  have L4 := Lib.hid hx
  clear hx hb hw
  refine (same_true [1, 207, 228, 43] 4 4 rfl rfl AT1 _ cT1 4 w10 T1.out L4.out).mono ?_
  rintro e w11 ⟨rfl, hb⟩
  replace L1 := Lib.hid (L1.out.next hb)
  replace P1 := Lib.hid (P1.out.next hb)
  replace T1 := Lib.hid (T1.out.next hb)
  replace R1 := Lib.hid (R1.out.next hb)
  replace R2 := Lib.hid (R2.out.next hb)
  replace L2 := Lib.hid (L2.out.next hb)
  replace T2 := Lib.hid (T2.out.next hb)
  replace L3 := Lib.hid (L3.out.next hb)
  replace R3 := Lib.hid (R3.out.next hb)
  replace L4 := Lib.hid (L4.out.next hb)
  replace HBL := Lib.hid (HBL.out.trans (hb.mono HBL.out.size))
  clear hb
  go_wp2_with fail
  obtain ⟨w12, hw⟩ : ∃ w12, w12 = w11.alloc (.cells #[.int .u8 1, .int .u8 9] 5) := ⟨_, rfl⟩
  rw [← hw]
  have hx : Bs w12 w12.heap.size [1, 9] (some ⟨w11.heap.size, 0, none⟩) 2 := by rw [hw]; exact bs_lit w11 _ [1, 9] 2 rfl rfl (by omega) (by decide)
  have hb : Below w11.heap.size w11 w12 := by rw [hw]; exact below_lit w11 _ _
  replace L1 := Lib.hid (L1.out.next hb)
  replace P1 := Lib.hid (P1.out.next hb)
  replace T1 := Lib.hid (T1.out.next hb)
  replace R1 := Lib.hid (R1.out.next hb)
  replace R2 := Lib.hid (R2.out.next hb)
  replace L2 := Lib.hid (L2.out.next hb)
  replace T2 := Lib.hid (T2.out.next hb)
  replace L3 := Lib.hid (L3.out.next hb)
  replace R3 := Lib.hid (R3.out.next hb)
  replace L4 := Lib.hid (L4.out.next hb)
  replace HBL := Lib.hid (HBL.out.trans (hb.mono HBL.out.size))
  have L5 := Lib.hid hx
  clear hx hb hw
  refine (same_true [1, 9] 2 2 rfl rfl AR1 _ cR1 2 w12 R1.out L5.out).mono ?_
  rintro e w13 ⟨rfl, hb⟩
  replace L1 := Lib.hid (L1.out.next hb)
  replace P1 := Lib.hid (P1.out.next hb)
  replace T1 := Lib.hid (T1.out.next hb)
  replace R1 := Lib.hid (R1.out.next hb)
  replace R2 := Lib.hid (R2.out.next hb)
  replace L2 := Lib.hid (L2.out.next hb)
  replace T2 := Lib.hid (T2.out.next hb)
  replace L3 := Lib.hid (L3.out.next hb)
  replace R3 := Lib.hid (R3.out.next hb)
  replace L4 := Lib.hid (L4.out.next hb)
  replace L5 := Lib.hid (L5.out.next hb)
  replace HBL := Lib.hid (HBL.out.trans (hb.mono HBL.out.size))
  clear hb
  go_wp2_with fail
  refine (same_true [1, 9] 2 2 rfl rfl AR2 AR1 cR2 cR1 w13 R2.out R1.out).mono ?_
  rintro e w14 ⟨rfl, hb⟩
  replace L1 := Lib.hid (L1.out.next hb)
  replace P1 := Lib.hid (P1.out.next hb)
  replace T1 := Lib.hid (T1.out.next hb)
  replace R1 := Lib.hid (R1.out.next hb)
  replace R2 := Lib.hid (R2.out.next hb)
  replace L2 := Lib.hid (L2.out.next hb)
  replace T2 := Lib.hid (T2.out.next hb)
  replace L3 := Lib.hid (L3.out.next hb)
  replace R3 := Lib.hid (R3.out.next hb)
  replace L4 := Lib.hid (L4.out.next hb)
  replace L5 := Lib.hid (L5.out.next hb)
  replace HBL := Lib.hid (HBL.out.trans (hb.mono HBL.out.size))
  clear hb
  go_wp2_with fail
  obtain ⟨w15, hw⟩ : ∃ w15, w15 = w14.alloc (.cells #[.int .u8 0, .int .u8 6, .int .u8 4] 5) := ⟨_, rfl⟩
  rw [← hw]
  have hx : Bs w15 w15.heap.size [0, 6, 4] (some ⟨w14.heap.size, 0, none⟩) 3 := by rw [hw]; exact bs_lit w14 _ [0, 6, 4] 3 rfl rfl (by omega) (by decide)
  have hb : Below w14.heap.size w14 w15 := by rw [hw]; exact below_lit w14 _ _
  replace L1 := Lib.hid (L1.out.next hb)
  replace P1 := Lib.hid (P1.out.next hb)
  replace T1 := Lib.hid (T1.out.next hb)
  replace R1 := Lib.hid (R1.out.next hb)
  replace R2 := Lib.hid (R2.out.next hb)
  replace L2 := Lib.hid (L2.out.next hb)
  replace T2 := Lib.hid (T2.out.next hb)
  replace L3 := Lib.hid (L3.out.next hb)
  replace R3 := Lib.hid (R3.out.next hb)
  replace L4 := Lib.hid (L4.out.next hb)
  replace L5 := Lib.hid (L5.out.next hb)
  replace HBL := Lib.hid (HBL.out.trans (hb.mono HBL.out.size))
  have L6 := Lib.hid hx
  clear hx hb hw
  refine (same_true [0, 6, 4] 3 3 rfl rfl AT2 _ cT2 3 w15 T2.out L6.out).mono ?_
  rintro e w16 ⟨rfl, hb⟩
  replace L1 := Lib.hid (L1.out.next hb)
  replace P1 := Lib.hid (P1.out.next hb)
  replace T1 := Lib.hid (T1.out.next hb)
  replace R1 := Lib.hid (R1.out.next hb)
  replace R2 := Lib.hid (R2.out.next hb)
  replace L2 := Lib.hid (L2.out.next hb)
  replace T2 := Lib.hid (T2.out.next hb)
  replace L3 := Lib.hid (L3.out.next hb)
  replace R3 := Lib.hid (R3.out.next hb)
  replace L4 := Lib.hid (L4.out.next hb)
  replace L5 := Lib.hid (L5.out.next hb)
  replace L6 := Lib.hid (L6.out.next hb)
  replace HBL := Lib.hid (HBL.out.trans (hb.mono HBL.out.size))
  clear hb
  go_wp2
  go_ret
  exact ⟨rfl, HBL.out⟩
end Go.Proofs.Ytjlcaobffhihhaa
