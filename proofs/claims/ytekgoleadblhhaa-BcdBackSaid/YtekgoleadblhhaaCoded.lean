/-
  Contract for the laws' constant check of layer 12, out of the contracts. Conditions: none.
-/
import Derived.Test.YtekgoleadblhhaaBcdC
import Derived.Test.YtekgoleadblhhaaBcdPPut
import Derived.Test.YtekgoleadblhhaaBcdPGet
import Derived.Test.YtekgoleadblhhaaBcdPJoin
import Derived.Test.YtekgoleadblhhaaBcdPSplit
namespace Go.Proofs.Ytekgoleadblhhaa
set_option linter.unusedVariables false
open Go.ChangeShapes Go.WideShapes Go.ChangeAt Go.RowKit

set_option maxRecDepth 100000 in
set_option maxHeartbeats 1600000 in
theorem coded_any (w : World) : Calls Try.prog 12 #[] w fun e w' => e = .returned (.bool true) ∧ Below w.heap.size w w' := by
  have HBL := Lib.hid (Below.refl w.heap.size w)
  go_enter Try.func12, Try.ntmps12
  go_wp2_with fail
  refine (pput_any 40 4 0 [0, 0, 4, 0] coded_c.1 coded_c.2.1 w (by omega)).mono ?_
  rintro e w1 ⟨AP1, cP1, rfl, hs, hb⟩
  replace HBL := Lib.hid (HBL.out.trans (hb.mono HBL.out.size))
  have P1 := Lib.hid hs
  clear hb hs
  go_wp2_with fail
  refine (pput_any 100 2 23 [] coded_c.2.2.1 coded_c.2.2.2.1 w1 (by omega)).mono ?_
  rintro e w2 ⟨AP2, cP2, rfl, hs, hb⟩
  replace P1 := Lib.hid (P1.out.next hb)
  replace HBL := Lib.hid (HBL.out.trans (hb.mono HBL.out.size))
  have P2 := Lib.hid hs
  clear hb hs
  go_wp2_with fail
  obtain ⟨w3, hw⟩ : ∃ w3, w3 = w2.alloc (.cells #[.int .u8 0, .int .u8 4, .int .u8 0] 5) := ⟨_, rfl⟩
  rw [← hw]
  have hx : Bs w3 w3.heap.size [0, 4, 0] (some ⟨w2.heap.size, 0, none⟩) 3 := by rw [hw]; exact bs_lit w2 _ [0, 4, 0] 3 rfl rfl (by omega) (by decide)
  have hb : Below w2.heap.size w2 w3 := by rw [hw]; exact below_lit w2 _ _
  replace P1 := Lib.hid (P1.out.next hb)
  replace P2 := Lib.hid (P2.out.next hb)
  replace HBL := Lib.hid (HBL.out.trans (hb.mono HBL.out.size))
  have L1 := Lib.hid hx
  clear hx hb hw
  refine (pget_any [0, 4, 0] 3 rfl 0 40 coded_c.2.2.2.2.1 _ 3 w3 L1.out).mono ?_
  rintro e wn ⟨rfl, rfl⟩
  go_wp2_with fail
  obtain ⟨w4, hw⟩ : ∃ w4, w4 = w3.alloc (.cells #[.int .u8 10] 5) := ⟨_, rfl⟩
  rw [← hw]
  have hx : Bs w4 w4.heap.size [10] (some ⟨w3.heap.size, 0, none⟩) 1 := by rw [hw]; exact bs_lit w3 _ [10] 1 rfl rfl (by omega) (by decide)
  have hb : Below w3.heap.size w3 w4 := by rw [hw]; exact below_lit w3 _ _
  replace P1 := Lib.hid (P1.out.next hb)
  replace P2 := Lib.hid (P2.out.next hb)
  replace L1 := Lib.hid (L1.out.next hb)
  replace HBL := Lib.hid (HBL.out.trans (hb.mono HBL.out.size))
  have L2 := Lib.hid hx
  clear hx hb hw
  refine (pget_any [10] 1 rfl 7 0 coded_c.2.2.2.2.2.1 _ 1 w4 L2.out).mono ?_
  rintro e wn ⟨rfl, rfl⟩
  go_wp2_with fail
  obtain ⟨w5, hw⟩ : ∃ w5, w5 = w4.alloc (.cells #[.int .i64 7, .int .i64 12] 3) := ⟨_, rfl⟩
  rw [← hw]
  have hx : Zs w5 w5.heap.size [7, 12] (some ⟨w4.heap.size, 0, none⟩) 2 := by rw [hw]; exact zs_lit w4 _ [7, 12] 2 rfl rfl (by omega)
  have hszw5 : w5.heap.size = w4.heap.size + 1 := by rw [hw]; simp
  have hb : Below w4.heap.size w4 w5 := by rw [hw]; exact below_lit w4 _ _
  replace P1 := Lib.hid (P1.out.next hb)
  replace P2 := Lib.hid (P2.out.next hb)
  replace L1 := Lib.hid (L1.out.next hb)
  replace L2 := Lib.hid (L2.out.next hb)
  replace HBL := Lib.hid (HBL.out.trans (hb.mono HBL.out.size))
  have L3 := Lib.hid hx
  clear hx hb hw
  have hsz : w5.heap.size = w4.heap.size + 1 := hszw5
  obtain ⟨w6, hw⟩ : ∃ w6, w6 = w5.alloc (.cells #[.int .i64 1, .int .i64 3] 3) := ⟨_, rfl⟩
  rw [← hw]
  have hx : Zs w6 w6.heap.size [1, 3] (some ⟨w4.heap.size + 1, 0, none⟩) 2 := by rw [hw]; have := zs_lit w5 #[.int .i64 1, .int .i64 3] [1, 3] 2 rfl rfl (by omega); rwa [hsz] at this
  have hszw6 : w6.heap.size = w5.heap.size + 1 := by rw [hw]; simp
  have hb : Below w5.heap.size w5 w6 := by rw [hw]; exact below_lit w5 _ _
  replace P1 := Lib.hid (P1.out.next hb)
  replace P2 := Lib.hid (P2.out.next hb)
  replace L1 := Lib.hid (L1.out.next hb)
  replace L2 := Lib.hid (L2.out.next hb)
  replace L3 := Lib.hid (L3.out.next hb)
  replace HBL := Lib.hid (HBL.out.trans (hb.mono HBL.out.size))
  have L4 := Lib.hid hx
  clear hx hb hw
  clear hsz hszw5 hszw6
  refine (pjoin_any [7, 12] [1, 3] 2 2 rfl rfl 0 [7, 0, 1, 2] coded_c.2.2.2.2.2.2.1 _ _ 2 2 w6 L3.out L4.out in64_a).mono ?_
  rintro e w7 ⟨AJ1, cJ1, rfl, hs, hb⟩
  replace P1 := Lib.hid (P1.out.next hb)
  replace P2 := Lib.hid (P2.out.next hb)
  replace L1 := Lib.hid (L1.out.next hb)
  replace L2 := Lib.hid (L2.out.next hb)
  replace L3 := Lib.hid (L3.out.next hb)
  replace L4 := Lib.hid (L4.out.next hb)
  replace HBL := Lib.hid (HBL.out.trans (hb.mono HBL.out.size))
  have J1 := Lib.hid hs
  clear hb hs
  go_wp2_with fail
  obtain ⟨w8, hw⟩ : ∃ w8, w8 = w7.alloc (.cells #[.int .u8 7, .int .u8 0, .int .u8 1, .int .u8 2] 5) := ⟨_, rfl⟩
  rw [← hw]
  have hx : Bs w8 w8.heap.size [7, 0, 1, 2] (some ⟨w7.heap.size, 0, none⟩) 4 := by rw [hw]; exact bs_lit w7 _ [7, 0, 1, 2] 4 rfl rfl (by omega) (by decide)
  have hb : Below w7.heap.size w7 w8 := by rw [hw]; exact below_lit w7 _ _
  replace P1 := Lib.hid (P1.out.next hb)
  replace P2 := Lib.hid (P2.out.next hb)
  replace L1 := Lib.hid (L1.out.next hb)
  replace L2 := Lib.hid (L2.out.next hb)
  replace L3 := Lib.hid (L3.out.next hb)
  replace L4 := Lib.hid (L4.out.next hb)
  replace J1 := Lib.hid (J1.out.next hb)
  replace HBL := Lib.hid (HBL.out.trans (hb.mono HBL.out.size))
  have L5 := Lib.hid hx
  have hszw8 : w8.heap.size = w7.heap.size + 1 := by rw [hw]; simp
  clear hx hb hw
  have hsz : w8.heap.size = w7.heap.size + 1 := hszw8
  obtain ⟨w9, hw⟩ : ∃ w9, w9 = w8.alloc (.cells #[.int .i64 1, .int .i64 3] 3) := ⟨_, rfl⟩
  rw [← hw]
  have hx : Zs w9 w9.heap.size [1, 3] (some ⟨w7.heap.size + 1, 0, none⟩) 2 := by rw [hw]; have := zs_lit w8 #[.int .i64 1, .int .i64 3] [1, 3] 2 rfl rfl (by omega); rwa [hsz] at this
  have hszw9 : w9.heap.size = w8.heap.size + 1 := by rw [hw]; simp
  have hb : Below w8.heap.size w8 w9 := by rw [hw]; exact below_lit w8 _ _
  replace P1 := Lib.hid (P1.out.next hb)
  replace P2 := Lib.hid (P2.out.next hb)
  replace L1 := Lib.hid (L1.out.next hb)
  replace L2 := Lib.hid (L2.out.next hb)
  replace L3 := Lib.hid (L3.out.next hb)
  replace L4 := Lib.hid (L4.out.next hb)
  replace J1 := Lib.hid (J1.out.next hb)
  replace L5 := Lib.hid (L5.out.next hb)
  replace HBL := Lib.hid (HBL.out.trans (hb.mono HBL.out.size))
  have L6 := Lib.hid hx
  clear hx hb hw
  clear hsz hszw8 hszw9
  refine (psplit_any [7, 0, 1, 2] [1, 3] 4 2 rfl rfl 0 [7, 12] coded_c.2.2.2.2.2.2.2.1 _ _ 4 2 w9 L5.out L6.out).mono ?_
  rintro e w10 ⟨AS1, cS1, rfl, hs, hb⟩
  replace P1 := Lib.hid (P1.out.next hb)
  replace P2 := Lib.hid (P2.out.next hb)
  replace L1 := Lib.hid (L1.out.next hb)
  replace L2 := Lib.hid (L2.out.next hb)
  replace L3 := Lib.hid (L3.out.next hb)
  replace L4 := Lib.hid (L4.out.next hb)
  replace J1 := Lib.hid (J1.out.next hb)
  replace L5 := Lib.hid (L5.out.next hb)
  replace L6 := Lib.hid (L6.out.next hb)
  replace HBL := Lib.hid (HBL.out.trans (hb.mono HBL.out.size))
  have S1 := Lib.hid hs
  clear hb hs
  go_wp2_with fail
  obtain ⟨w11, hw⟩ : ∃ w11, w11 = w10.alloc (.cells #[.int .u8 7, .int .u8 0, .int .u8 1] 5) := ⟨_, rfl⟩
  rw [← hw]
  have hx : Bs w11 w11.heap.size [7, 0, 1] (some ⟨w10.heap.size, 0, none⟩) 3 := by rw [hw]; exact bs_lit w10 _ [7, 0, 1] 3 rfl rfl (by omega) (by decide)
  have hb : Below w10.heap.size w10 w11 := by rw [hw]; exact below_lit w10 _ _
  replace P1 := Lib.hid (P1.out.next hb)
  replace P2 := Lib.hid (P2.out.next hb)
  replace L1 := Lib.hid (L1.out.next hb)
  replace L2 := Lib.hid (L2.out.next hb)
  replace L3 := Lib.hid (L3.out.next hb)
  replace L4 := Lib.hid (L4.out.next hb)
  replace J1 := Lib.hid (J1.out.next hb)
  replace L5 := Lib.hid (L5.out.next hb)
  replace L6 := Lib.hid (L6.out.next hb)
  replace S1 := Lib.hid (S1.out.next hb)
  replace HBL := Lib.hid (HBL.out.trans (hb.mono HBL.out.size))
  have L7 := Lib.hid hx
  have hszw11 : w11.heap.size = w10.heap.size + 1 := by rw [hw]; simp
  clear hx hb hw
  have hsz : w11.heap.size = w10.heap.size + 1 := hszw11
  obtain ⟨w12, hw⟩ : ∃ w12, w12 = w11.alloc (.cells #[.int .i64 1, .int .i64 3] 3) := ⟨_, rfl⟩
  rw [← hw]
  have hx : Zs w12 w12.heap.size [1, 3] (some ⟨w10.heap.size + 1, 0, none⟩) 2 := by rw [hw]; have := zs_lit w11 #[.int .i64 1, .int .i64 3] [1, 3] 2 rfl rfl (by omega); rwa [hsz] at this
  have hszw12 : w12.heap.size = w11.heap.size + 1 := by rw [hw]; simp
  have hb : Below w11.heap.size w11 w12 := by rw [hw]; exact below_lit w11 _ _
  replace P1 := Lib.hid (P1.out.next hb)
  replace P2 := Lib.hid (P2.out.next hb)
  replace L1 := Lib.hid (L1.out.next hb)
  replace L2 := Lib.hid (L2.out.next hb)
  replace L3 := Lib.hid (L3.out.next hb)
  replace L4 := Lib.hid (L4.out.next hb)
  replace J1 := Lib.hid (J1.out.next hb)
  replace L5 := Lib.hid (L5.out.next hb)
  replace L6 := Lib.hid (L6.out.next hb)
  replace S1 := Lib.hid (S1.out.next hb)
  replace L7 := Lib.hid (L7.out.next hb)
  replace HBL := Lib.hid (HBL.out.trans (hb.mono HBL.out.size))
  have L8 := Lib.hid hx
  clear hx hb hw
  clear hsz hszw11 hszw12
  refine (psplit_any [7, 0, 1] [1, 3] 3 2 rfl rfl 14 [] coded_c.2.2.2.2.2.2.2.2.1 _ _ 3 2 w12 L7.out L8.out).mono ?_
  rintro e w13 ⟨AS2, cS2, rfl, hs, hb⟩
  replace P1 := Lib.hid (P1.out.next hb)
  replace P2 := Lib.hid (P2.out.next hb)
  replace L1 := Lib.hid (L1.out.next hb)
  replace L2 := Lib.hid (L2.out.next hb)
  replace L3 := Lib.hid (L3.out.next hb)
  replace L4 := Lib.hid (L4.out.next hb)
  replace J1 := Lib.hid (J1.out.next hb)
  replace L5 := Lib.hid (L5.out.next hb)
  replace L6 := Lib.hid (L6.out.next hb)
  replace S1 := Lib.hid (S1.out.next hb)
  replace L7 := Lib.hid (L7.out.next hb)
  replace L8 := Lib.hid (L8.out.next hb)
  replace HBL := Lib.hid (HBL.out.trans (hb.mono HBL.out.size))
  have S2 := Lib.hid hs
  clear hb hs
  go_wp2_with fail
  obtain ⟨w14, hw⟩ : ∃ w14, w14 = w13.alloc (.cells #[.int .i64 7] 3) := ⟨_, rfl⟩
  rw [← hw]
  have hx : Zs w14 w14.heap.size [7] (some ⟨w13.heap.size, 0, none⟩) 1 := by rw [hw]; exact zs_lit w13 _ [7] 1 rfl rfl (by omega)
  have hszw14 : w14.heap.size = w13.heap.size + 1 := by rw [hw]; simp
  have hb : Below w13.heap.size w13 w14 := by rw [hw]; exact below_lit w13 _ _
  replace P1 := Lib.hid (P1.out.next hb)
  replace P2 := Lib.hid (P2.out.next hb)
  replace L1 := Lib.hid (L1.out.next hb)
  replace L2 := Lib.hid (L2.out.next hb)
  replace L3 := Lib.hid (L3.out.next hb)
  replace L4 := Lib.hid (L4.out.next hb)
  replace J1 := Lib.hid (J1.out.next hb)
  replace L5 := Lib.hid (L5.out.next hb)
  replace L6 := Lib.hid (L6.out.next hb)
  replace S1 := Lib.hid (S1.out.next hb)
  replace L7 := Lib.hid (L7.out.next hb)
  replace L8 := Lib.hid (L8.out.next hb)
  replace S2 := Lib.hid (S2.out.next hb)
  replace HBL := Lib.hid (HBL.out.trans (hb.mono HBL.out.size))
  have L9 := Lib.hid hx
  clear hx hb hw
  have hsz : w14.heap.size = w13.heap.size + 1 := hszw14
  obtain ⟨w15, hw⟩ : ∃ w15, w15 = w14.alloc (.cells #[.int .i64 1, .int .i64 3] 3) := ⟨_, rfl⟩
  rw [← hw]
  have hx : Zs w15 w15.heap.size [1, 3] (some ⟨w13.heap.size + 1, 0, none⟩) 2 := by rw [hw]; have := zs_lit w14 #[.int .i64 1, .int .i64 3] [1, 3] 2 rfl rfl (by omega); rwa [hsz] at this
  have hszw15 : w15.heap.size = w14.heap.size + 1 := by rw [hw]; simp
  have hb : Below w14.heap.size w14 w15 := by rw [hw]; exact below_lit w14 _ _
  replace P1 := Lib.hid (P1.out.next hb)
  replace P2 := Lib.hid (P2.out.next hb)
  replace L1 := Lib.hid (L1.out.next hb)
  replace L2 := Lib.hid (L2.out.next hb)
  replace L3 := Lib.hid (L3.out.next hb)
  replace L4 := Lib.hid (L4.out.next hb)
  replace J1 := Lib.hid (J1.out.next hb)
  replace L5 := Lib.hid (L5.out.next hb)
  replace L6 := Lib.hid (L6.out.next hb)
  replace S1 := Lib.hid (S1.out.next hb)
  replace L7 := Lib.hid (L7.out.next hb)
  replace L8 := Lib.hid (L8.out.next hb)
  replace S2 := Lib.hid (S2.out.next hb)
  replace L9 := Lib.hid (L9.out.next hb)
  replace HBL := Lib.hid (HBL.out.trans (hb.mono HBL.out.size))
  have L10 := Lib.hid hx
  clear hx hb hw
  clear hsz hszw14 hszw15
  refine (pjoin_any [7] [1, 3] 1 2 rfl rfl 1 [] coded_c.2.2.2.2.2.2.2.2.2 _ _ 1 2 w15 L9.out L10.out in64_b).mono ?_
  rintro e w16 ⟨AJ2, cJ2, rfl, hs, hb⟩
  replace P1 := Lib.hid (P1.out.next hb)
  replace P2 := Lib.hid (P2.out.next hb)
  replace L1 := Lib.hid (L1.out.next hb)
  replace L2 := Lib.hid (L2.out.next hb)
  replace L3 := Lib.hid (L3.out.next hb)
  replace L4 := Lib.hid (L4.out.next hb)
  replace J1 := Lib.hid (J1.out.next hb)
  replace L5 := Lib.hid (L5.out.next hb)
  replace L6 := Lib.hid (L6.out.next hb)
  replace S1 := Lib.hid (S1.out.next hb)
  replace L7 := Lib.hid (L7.out.next hb)
  replace L8 := Lib.hid (L8.out.next hb)
  replace S2 := Lib.hid (S2.out.next hb)
  replace L9 := Lib.hid (L9.out.next hb)
  replace L10 := Lib.hid (L10.out.next hb)
  replace HBL := Lib.hid (HBL.out.trans (hb.mono HBL.out.size))
  have J2 := Lib.hid hs
  clear hb hs
  go_wp2_with fail
  obtain ⟨w17, hw⟩ : ∃ w17, w17 = w16.alloc (.cells #[.int .u8 0, .int .u8 0, .int .u8 4, .int .u8 0] 5) := ⟨_, rfl⟩
  rw [← hw]
  have hx : Bs w17 w17.heap.size [0, 0, 4, 0] (some ⟨w16.heap.size, 0, none⟩) 4 := by rw [hw]; exact bs_lit w16 _ [0, 0, 4, 0] 4 rfl rfl (by omega) (by decide)
  have hb : Below w16.heap.size w16 w17 := by rw [hw]; exact below_lit w16 _ _
  replace P1 := Lib.hid (P1.out.next hb)
  replace P2 := Lib.hid (P2.out.next hb)
  replace L1 := Lib.hid (L1.out.next hb)
  replace L2 := Lib.hid (L2.out.next hb)
  replace L3 := Lib.hid (L3.out.next hb)
  replace L4 := Lib.hid (L4.out.next hb)
  replace J1 := Lib.hid (J1.out.next hb)
  replace L5 := Lib.hid (L5.out.next hb)
  replace L6 := Lib.hid (L6.out.next hb)
  replace S1 := Lib.hid (S1.out.next hb)
  replace L7 := Lib.hid (L7.out.next hb)
  replace L8 := Lib.hid (L8.out.next hb)
  replace S2 := Lib.hid (S2.out.next hb)
  replace L9 := Lib.hid (L9.out.next hb)
  replace L10 := Lib.hid (L10.out.next hb)
  replace J2 := Lib.hid (J2.out.next hb)
  replace HBL := Lib.hid (HBL.out.trans (hb.mono HBL.out.size))
  have L11 := Lib.hid hx
  clear hx hb hw
  refine (same_true [0, 0, 4, 0] 4 4 rfl rfl AP1 _ cP1 4 w17 P1.out L11.out).mono ?_
  rintro e w18 ⟨rfl, hb⟩
  replace P1 := Lib.hid (P1.out.next hb)
  replace P2 := Lib.hid (P2.out.next hb)
  replace L1 := Lib.hid (L1.out.next hb)
  replace L2 := Lib.hid (L2.out.next hb)
  replace L3 := Lib.hid (L3.out.next hb)
  replace L4 := Lib.hid (L4.out.next hb)
  replace J1 := Lib.hid (J1.out.next hb)
  replace L5 := Lib.hid (L5.out.next hb)
  replace L6 := Lib.hid (L6.out.next hb)
  replace S1 := Lib.hid (S1.out.next hb)
  replace L7 := Lib.hid (L7.out.next hb)
  replace L8 := Lib.hid (L8.out.next hb)
  replace S2 := Lib.hid (S2.out.next hb)
  replace L9 := Lib.hid (L9.out.next hb)
  replace L10 := Lib.hid (L10.out.next hb)
  replace J2 := Lib.hid (J2.out.next hb)
  replace L11 := Lib.hid (L11.out.next hb)
  replace HBL := Lib.hid (HBL.out.trans (hb.mono HBL.out.size))
  clear hb
  go_wp2_with fail
  obtain ⟨w19, hw⟩ : ∃ w19, w19 = w18.alloc (.cells #[.int .u8 7, .int .u8 0, .int .u8 1, .int .u8 2] 5) := ⟨_, rfl⟩
  rw [← hw]
  have hx : Bs w19 w19.heap.size [7, 0, 1, 2] (some ⟨w18.heap.size, 0, none⟩) 4 := by rw [hw]; exact bs_lit w18 _ [7, 0, 1, 2] 4 rfl rfl (by omega) (by decide)
  have hb : Below w18.heap.size w18 w19 := by rw [hw]; exact below_lit w18 _ _
  replace P1 := Lib.hid (P1.out.next hb)
  replace P2 := Lib.hid (P2.out.next hb)
  replace L1 := Lib.hid (L1.out.next hb)
  replace L2 := Lib.hid (L2.out.next hb)
  replace L3 := Lib.hid (L3.out.next hb)
  replace L4 := Lib.hid (L4.out.next hb)
  replace J1 := Lib.hid (J1.out.next hb)
  replace L5 := Lib.hid (L5.out.next hb)
  replace L6 := Lib.hid (L6.out.next hb)
  replace S1 := Lib.hid (S1.out.next hb)
  replace L7 := Lib.hid (L7.out.next hb)
  replace L8 := Lib.hid (L8.out.next hb)
  replace S2 := Lib.hid (S2.out.next hb)
  replace L9 := Lib.hid (L9.out.next hb)
  replace L10 := Lib.hid (L10.out.next hb)
  replace J2 := Lib.hid (J2.out.next hb)
  replace L11 := Lib.hid (L11.out.next hb)
  replace HBL := Lib.hid (HBL.out.trans (hb.mono HBL.out.size))
  have L12 := Lib.hid hx
  clear hx hb hw
  refine (same_true [7, 0, 1, 2] 4 4 rfl rfl AJ1 _ cJ1 4 w19 J1.out L12.out).mono ?_
  rintro e w20 ⟨rfl, hb⟩
  replace P1 := Lib.hid (P1.out.next hb)
  replace P2 := Lib.hid (P2.out.next hb)
  replace L1 := Lib.hid (L1.out.next hb)
  replace L2 := Lib.hid (L2.out.next hb)
  replace L3 := Lib.hid (L3.out.next hb)
  replace L4 := Lib.hid (L4.out.next hb)
  replace J1 := Lib.hid (J1.out.next hb)
  replace L5 := Lib.hid (L5.out.next hb)
  replace L6 := Lib.hid (L6.out.next hb)
  replace S1 := Lib.hid (S1.out.next hb)
  replace L7 := Lib.hid (L7.out.next hb)
  replace L8 := Lib.hid (L8.out.next hb)
  replace S2 := Lib.hid (S2.out.next hb)
  replace L9 := Lib.hid (L9.out.next hb)
  replace L10 := Lib.hid (L10.out.next hb)
  replace J2 := Lib.hid (J2.out.next hb)
  replace L11 := Lib.hid (L11.out.next hb)
  replace L12 := Lib.hid (L12.out.next hb)
  replace HBL := Lib.hid (HBL.out.trans (hb.mono HBL.out.size))
  clear hb
  go_wp2_with fail
  obtain ⟨w21, hw⟩ : ∃ w21, w21 = w20.alloc (.cells #[.int .i64 7, .int .i64 12] 3) := ⟨_, rfl⟩
  rw [← hw]
  have hx : Zs w21 w21.heap.size [7, 12] (some ⟨w20.heap.size, 0, none⟩) 2 := by rw [hw]; exact zs_lit w20 _ [7, 12] 2 rfl rfl (by omega)
  have hszw21 : w21.heap.size = w20.heap.size + 1 := by rw [hw]; simp
  have hb : Below w20.heap.size w20 w21 := by rw [hw]; exact below_lit w20 _ _
  replace P1 := Lib.hid (P1.out.next hb)
  replace P2 := Lib.hid (P2.out.next hb)
  replace L1 := Lib.hid (L1.out.next hb)
  replace L2 := Lib.hid (L2.out.next hb)
  replace L3 := Lib.hid (L3.out.next hb)
  replace L4 := Lib.hid (L4.out.next hb)
  replace J1 := Lib.hid (J1.out.next hb)
  replace L5 := Lib.hid (L5.out.next hb)
  replace L6 := Lib.hid (L6.out.next hb)
  replace S1 := Lib.hid (S1.out.next hb)
  replace L7 := Lib.hid (L7.out.next hb)
  replace L8 := Lib.hid (L8.out.next hb)
  replace S2 := Lib.hid (S2.out.next hb)
  replace L9 := Lib.hid (L9.out.next hb)
  replace L10 := Lib.hid (L10.out.next hb)
  replace J2 := Lib.hid (J2.out.next hb)
  replace L11 := Lib.hid (L11.out.next hb)
  replace L12 := Lib.hid (L12.out.next hb)
  replace HBL := Lib.hid (HBL.out.trans (hb.mono HBL.out.size))
  have L13 := Lib.hid hx
  clear hx hb hw
  refine (samen_true [7, 12] 2 2 rfl rfl AS1 _ cS1 2 w21 S1.out L13.out).mono ?_
  rintro e w22 ⟨rfl, hb⟩
  replace P1 := Lib.hid (P1.out.next hb)
  replace P2 := Lib.hid (P2.out.next hb)
  replace L1 := Lib.hid (L1.out.next hb)
  replace L2 := Lib.hid (L2.out.next hb)
  replace L3 := Lib.hid (L3.out.next hb)
  replace L4 := Lib.hid (L4.out.next hb)
  replace J1 := Lib.hid (J1.out.next hb)
  replace L5 := Lib.hid (L5.out.next hb)
  replace L6 := Lib.hid (L6.out.next hb)
  replace S1 := Lib.hid (S1.out.next hb)
  replace L7 := Lib.hid (L7.out.next hb)
  replace L8 := Lib.hid (L8.out.next hb)
  replace S2 := Lib.hid (S2.out.next hb)
  replace L9 := Lib.hid (L9.out.next hb)
  replace L10 := Lib.hid (L10.out.next hb)
  replace J2 := Lib.hid (J2.out.next hb)
  replace L11 := Lib.hid (L11.out.next hb)
  replace L12 := Lib.hid (L12.out.next hb)
  replace L13 := Lib.hid (L13.out.next hb)
  replace HBL := Lib.hid (HBL.out.trans (hb.mono HBL.out.size))
  clear hb
  go_wp2
  go_ret
  exact ⟨rfl, HBL.out⟩
end Go.Proofs.Ytekgoleadblhhaa
