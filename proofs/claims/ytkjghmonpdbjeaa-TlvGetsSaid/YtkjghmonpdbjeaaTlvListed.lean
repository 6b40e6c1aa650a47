/-
  The laws' constant check of layer 17. Conditions: none.
-/
import Derived.Test.YtkjghmonpdbjeaaTlvPGet
import Derived.Test.YtkjghmonpdbjeaaTlvRefGet
import Derived.Test.YtkjghmonpdbjeaaTlvRefPut
import Derived.Test.YtkjghmonpdbjeaaTlvSame
import Derived.Test.YtkjghmonpdbjeaaTlvBig
import Derived.Test.YtkjghmonpdbjeaaTlvNum
namespace Go.Proofs.Ytkjghmonpdbjeaa
set_option linter.unusedVariables false
open Go.ChangeShapes Go.WideShapes Go.ChangeAt Go.RowKit

theorem listed_c0 : outT [⟨1, [9]⟩, ⟨200, []⟩] = (0, [1, 1, 9, 200, 0]) := by kernel_rfl
theorem listed_c1 : gotT [1, 1, 9, 200, 0] = (0, [⟨1, [9]⟩, ⟨200, []⟩]) := by kernel_rfl
theorem listed_c2 : outT [⟨2, []⟩, ⟨2, []⟩] = (1, []) := by kernel_rfl
theorem listed_c3 : gotT [1, 0, 1, 0] = (13, []) := by kernel_rfl
theorem listed_c4 : gotT [1, 2, 0] = (14, []) := by kernel_rfl
theorem listed_c5 : gotT [1, 0, 3] = (14, []) := by kernel_rfl
theorem listed_c6 : outN 256 = (0, [1, 0]) := by kernel_rfl
theorem listed_c7 : valT [1, 0] = (256, 0) := by kernel_rfl
theorem listed_c8 : valT [0, 1] = (0, 14) := by kernel_rfl
theorem listed_c9 : outN 0 = (0, []) := by kernel_rfl
theorem listed_c10 : outN (-1) = (1, []) := by kernel_rfl
theorem listed_c11 : isT 0 [⟨1, [9]⟩, ⟨200, []⟩] = true := by kernel_rfl
set_option maxRecDepth 100000 in
set_option maxHeartbeats 1600000 in
theorem listed_any (w : World) : Calls Try.prog 12 #[] w fun e w' => e = .returned (.bool true) ∧ Below w.heap.size w w' := by
  have HBL := Lib.hid (Below.refl w.heap.size w)
  go_enter Try.func12, Try.ntmps12
  go_wp2_with fail
  obtain ⟨w2, hw2, hx, hb⟩ : ∃ w2, w2 = (w.alloc (.cells #[.int .u8 9] 5)).alloc (.cells #[.int .i64 1, .slice (some ⟨w.heap.size, 0, none⟩) 1 1, .int .i64 200, .slice none 0 0] 40) ∧ Ts w2 w2.heap.size [⟨1, [9]⟩, ⟨200, []⟩] (some ⟨w.heap.size + 1, 0, none⟩) 2 ∧ Below w.heap.size w w2 := by
    have hx0 : Bs (w.alloc (.cells #[.int .u8 9] 5)) (w.alloc (.cells #[.int .u8 9] 5)).heap.size [9] (some ⟨w.heap.size, 0, none⟩) 1 := bs_lit w _ [9] 1 rfl rfl (by omega) (by decide)
    have hz : (w.alloc (.cells #[.int .u8 9] 5)).heap.size = w.heap.size + 1 := World.size_alloc _ _
    have h1 := ts_lit (w.alloc (.cells #[.int .u8 9] 5)) [(⟨⟨1, [9]⟩, some ⟨w.heap.size, 0, none⟩, 1⟩ : TV), ⟨⟨200, []⟩, none, 0⟩] #[.int .i64 1, .slice (some ⟨w.heap.size, 0, none⟩) 1 1, .int .i64 200, .slice none 0 0] 2 rfl rfl (by omega) (fun q hq => by
      simp only [List.mem_cons, List.not_mem_nil, or_false] at hq
      rcases hq with rfl | rfl
      · exact hx0
      · exact Bs.empty _ _)
    rw [hz] at h1
    exact ⟨_, rfl, h1, (below_lit w _ _).trans ((below_lit _ _ _).mono (below_lit w #[.int .u8 9] 5).size)⟩
  rw [← hw2]
  replace HBL := Lib.hid (HBL.out.trans (hb.mono HBL.out.size))
  have L1 := Lib.hid hx
  clear hx hb hw2
  refine (pput_tlv [⟨1, [9]⟩, ⟨200, []⟩] 2 rfl 0 [1, 1, 9, 200, 0] listed_c0 _ 2 w2 L1.out).mono ?_
  rintro e w3 ⟨AP1, cP1, rfl, hs, hb⟩
  replace L1 := Lib.hid (L1.out.next hb)
  replace HBL := Lib.hid (HBL.out.trans (hb.mono HBL.out.size))
  have P1 := Lib.hid hs
  clear hb hs
  go_wp2_with fail
  refine (pget_tlv [1, 1, 9, 200, 0] 5 rfl (by omega) 0 [⟨1, [9]⟩, ⟨200, []⟩] listed_c1 AP1 cP1 w3 P1.out).mono ?_
  rintro e w4 ⟨AG1, cG1, rfl, hs, hb⟩
  replace L1 := Lib.hid (L1.out.next hb)
  replace P1 := Lib.hid (P1.out.next hb)
  replace HBL := Lib.hid (HBL.out.trans (hb.mono HBL.out.size))
  have G1 := Lib.hid hs
  clear hb hs
  go_wp2_with fail
  obtain ⟨w5, hw⟩ : ∃ w5, w5 = w4.alloc (.cells #[.int .i64 2, .slice none 0 0, .int .i64 2, .slice none 0 0] 40) := ⟨_, rfl⟩
  rw [← hw]
  have hx : Ts w5 w5.heap.size (List.map (·.f) [(⟨⟨2, []⟩, none, 0⟩ : TV), ⟨⟨2, []⟩, none, 0⟩]) (some ⟨w4.heap.size, 0, none⟩) 2 := by rw [hw]; exact ts_lit w4 [(⟨⟨2, []⟩, none, 0⟩ : TV), ⟨⟨2, []⟩, none, 0⟩] _ 2 rfl rfl (by omega) (fun q hq => by simp only [List.mem_cons, List.not_mem_nil, or_false, or_self] at hq; subst hq; exact Bs.empty _ _)
  have hb : Below w4.heap.size w4 w5 := by rw [hw]; exact below_lit w4 _ _
  replace L1 := Lib.hid (L1.out.next hb)
  replace P1 := Lib.hid (P1.out.next hb)
  replace G1 := Lib.hid (G1.out.next hb)
  replace HBL := Lib.hid (HBL.out.trans (hb.mono HBL.out.size))
  have L2 := Lib.hid hx
  clear hx hb hw
  refine (pput_tlv [⟨2, []⟩, ⟨2, []⟩] 2 rfl 1 [] listed_c2 _ 2 w5 L2.out).mono ?_
  rintro e w6 ⟨AP2, cP2, rfl, hs, hb⟩
  replace L1 := Lib.hid (L1.out.next hb)
  replace P1 := Lib.hid (P1.out.next hb)
  replace G1 := Lib.hid (G1.out.next hb)
  replace L2 := Lib.hid (L2.out.next hb)
  replace HBL := Lib.hid (HBL.out.trans (hb.mono HBL.out.size))
  have P2 := Lib.hid hs
  clear hb hs
  go_wp2_with fail
  obtain ⟨w7, hw⟩ : ∃ w7, w7 = w6.alloc (.cells #[.int .u8 1, .int .u8 0, .int .u8 1, .int .u8 0] 5) := ⟨_, rfl⟩
  rw [← hw]
  have hx : Bs w7 w7.heap.size [1, 0, 1, 0] (some ⟨w6.heap.size, 0, none⟩) 4 := by rw [hw]; exact bs_lit w6 _ [1, 0, 1, 0] 4 rfl rfl (by omega) (by decide)
  have hb : Below w6.heap.size w6 w7 := by rw [hw]; exact below_lit w6 _ _
  replace L1 := Lib.hid (L1.out.next hb)
  replace P1 := Lib.hid (P1.out.next hb)
  replace G1 := Lib.hid (G1.out.next hb)
  replace L2 := Lib.hid (L2.out.next hb)
  replace P2 := Lib.hid (P2.out.next hb)
  replace HBL := Lib.hid (HBL.out.trans (hb.mono HBL.out.size))
  have M0 := Lib.hid hx
  clear hx hb hw
  refine (pget_tlv [1, 0, 1, 0] 4 rfl (by omega) 13 [] listed_c3 _ 4 w7 M0.out).mono ?_
  rintro e w8 ⟨AH0, cH0, rfl, hs, hb⟩
  replace L1 := Lib.hid (L1.out.next hb)
  replace P1 := Lib.hid (P1.out.next hb)
  replace G1 := Lib.hid (G1.out.next hb)
  replace L2 := Lib.hid (L2.out.next hb)
  replace P2 := Lib.hid (P2.out.next hb)
  replace M0 := Lib.hid (M0.out.next hb)
  replace HBL := Lib.hid (HBL.out.trans (hb.mono HBL.out.size))
  have H0 := Lib.hid hs
  clear hb hs
  go_wp2_with fail
  obtain ⟨w9, hw⟩ : ∃ w9, w9 = w8.alloc (.cells #[.int .u8 1, .int .u8 2, .int .u8 0] 5) := ⟨_, rfl⟩
  rw [← hw]
  have hx : Bs w9 w9.heap.size [1, 2, 0] (some ⟨w8.heap.size, 0, none⟩) 3 := by rw [hw]; exact bs_lit w8 _ [1, 2, 0] 3 rfl rfl (by omega) (by decide)
  have hb : Below w8.heap.size w8 w9 := by rw [hw]; exact below_lit w8 _ _
  replace L1 := Lib.hid (L1.out.next hb)
  replace P1 := Lib.hid (P1.out.next hb)
  replace G1 := Lib.hid (G1.out.next hb)
  replace L2 := Lib.hid (L2.out.next hb)
  replace P2 := Lib.hid (P2.out.next hb)
  replace M0 := Lib.hid (M0.out.next hb)
  replace H0 := Lib.hid (H0.out.next hb)
  replace HBL := Lib.hid (HBL.out.trans (hb.mono HBL.out.size))
  have M1 := Lib.hid hx
  clear hx hb hw
  refine (pget_tlv [1, 2, 0] 3 rfl (by omega) 14 [] listed_c4 _ 3 w9 M1.out).mono ?_
  rintro e w10 ⟨AH1, cH1, rfl, hs, hb⟩
  replace L1 := Lib.hid (L1.out.next hb)
  replace P1 := Lib.hid (P1.out.next hb)
  replace G1 := Lib.hid (G1.out.next hb)
  replace L2 := Lib.hid (L2.out.next hb)
  replace P2 := Lib.hid (P2.out.next hb)
  replace M0 := Lib.hid (M0.out.next hb)
  replace H0 := Lib.hid (H0.out.next hb)
  replace M1 := Lib.hid (M1.out.next hb)
  replace HBL := Lib.hid (HBL.out.trans (hb.mono HBL.out.size))
  have H1 := Lib.hid hs
  clear hb hs
  go_wp2_with fail
  obtain ⟨w11, hw⟩ : ∃ w11, w11 = w10.alloc (.cells #[.int .u8 1, .int .u8 0, .int .u8 3] 5) := ⟨_, rfl⟩
  rw [← hw]
  have hx : Bs w11 w11.heap.size [1, 0, 3] (some ⟨w10.heap.size, 0, none⟩) 3 := by rw [hw]; exact bs_lit w10 _ [1, 0, 3] 3 rfl rfl (by omega) (by decide)
  have hb : Below w10.heap.size w10 w11 := by rw [hw]; exact below_lit w10 _ _
  replace L1 := Lib.hid (L1.out.next hb)
  replace P1 := Lib.hid (P1.out.next hb)
  replace G1 := Lib.hid (G1.out.next hb)
  replace L2 := Lib.hid (L2.out.next hb)
  replace P2 := Lib.hid (P2.out.next hb)
  replace M0 := Lib.hid (M0.out.next hb)
  replace H0 := Lib.hid (H0.out.next hb)
  replace M1 := Lib.hid (M1.out.next hb)
  replace H1 := Lib.hid (H1.out.next hb)
  replace HBL := Lib.hid (HBL.out.trans (hb.mono HBL.out.size))
  have M2 := Lib.hid hx
  clear hx hb hw
  refine (pget_tlv [1, 0, 3] 3 rfl (by omega) 14 [] listed_c5 _ 3 w11 M2.out).mono ?_
  rintro e w12 ⟨AH2, cH2, rfl, hs, hb⟩
  replace L1 := Lib.hid (L1.out.next hb)
  replace P1 := Lib.hid (P1.out.next hb)
  replace G1 := Lib.hid (G1.out.next hb)
  replace L2 := Lib.hid (L2.out.next hb)
  replace P2 := Lib.hid (P2.out.next hb)
  replace M0 := Lib.hid (M0.out.next hb)
  replace H0 := Lib.hid (H0.out.next hb)
  replace M1 := Lib.hid (M1.out.next hb)
  replace H1 := Lib.hid (H1.out.next hb)
  replace M2 := Lib.hid (M2.out.next hb)
  replace HBL := Lib.hid (HBL.out.trans (hb.mono HBL.out.size))
  have H2 := Lib.hid hs
  clear hb hs
  go_wp2_with fail
  refine (pnumber_any 256 (by omega) 0 [1, 0] listed_c6 w12).mono ?_
  rintro e w13 ⟨AN1, cN1, rfl, hs, hb⟩
  replace L1 := Lib.hid (L1.out.next hb)
  replace P1 := Lib.hid (P1.out.next hb)
  replace G1 := Lib.hid (G1.out.next hb)
  replace L2 := Lib.hid (L2.out.next hb)
  replace P2 := Lib.hid (P2.out.next hb)
  replace M0 := Lib.hid (M0.out.next hb)
  replace H0 := Lib.hid (H0.out.next hb)
  replace M1 := Lib.hid (M1.out.next hb)
  replace H1 := Lib.hid (H1.out.next hb)
  replace M2 := Lib.hid (M2.out.next hb)
  replace H2 := Lib.hid (H2.out.next hb)
  replace HBL := Lib.hid (HBL.out.trans (hb.mono HBL.out.size))
  have N1 := Lib.hid hs
  clear hb hs
  go_wp2_with fail
  obtain ⟨w14, hw⟩ : ∃ w14, w14 = w13.alloc (.cells #[.int .u8 1, .int .u8 0] 5) := ⟨_, rfl⟩
  rw [← hw]
  have hx : Bs w14 w14.heap.size [1, 0] (some ⟨w13.heap.size, 0, none⟩) 2 := by rw [hw]; exact bs_lit w13 _ [1, 0] 2 rfl rfl (by omega) (by decide)
  have hb : Below w13.heap.size w13 w14 := by rw [hw]; exact below_lit w13 _ _
  replace L1 := Lib.hid (L1.out.next hb)
  replace P1 := Lib.hid (P1.out.next hb)
  replace G1 := Lib.hid (G1.out.next hb)
  replace L2 := Lib.hid (L2.out.next hb)
  replace P2 := Lib.hid (P2.out.next hb)
  replace M0 := Lib.hid (M0.out.next hb)
  replace H0 := Lib.hid (H0.out.next hb)
  replace M1 := Lib.hid (M1.out.next hb)
  replace H1 := Lib.hid (H1.out.next hb)
  replace M2 := Lib.hid (M2.out.next hb)
  replace H2 := Lib.hid (H2.out.next hb)
  replace N1 := Lib.hid (N1.out.next hb)
  replace HBL := Lib.hid (HBL.out.trans (hb.mono HBL.out.size))
  have M3 := Lib.hid hx
  clear hx hb hw
  refine (pvalue_any [1, 0] 2 rfl 256 0 listed_c7 _ 2 w14 M3.out).mono ?_
  rintro e _ ⟨rfl, rfl⟩
  go_wp2_with fail
  obtain ⟨w15, hw⟩ : ∃ w15, w15 = w14.alloc (.cells #[.int .u8 0, .int .u8 1] 5) := ⟨_, rfl⟩
  rw [← hw]
  have hx : Bs w15 w15.heap.size [0, 1] (some ⟨w14.heap.size, 0, none⟩) 2 := by rw [hw]; exact bs_lit w14 _ [0, 1] 2 rfl rfl (by omega) (by decide)
  have hb : Below w14.heap.size w14 w15 := by rw [hw]; exact below_lit w14 _ _
  replace L1 := Lib.hid (L1.out.next hb)
  replace P1 := Lib.hid (P1.out.next hb)
  replace G1 := Lib.hid (G1.out.next hb)
  replace L2 := Lib.hid (L2.out.next hb)
  replace P2 := Lib.hid (P2.out.next hb)
  replace M0 := Lib.hid (M0.out.next hb)
  replace H0 := Lib.hid (H0.out.next hb)
  replace M1 := Lib.hid (M1.out.next hb)
  replace H1 := Lib.hid (H1.out.next hb)
  replace M2 := Lib.hid (M2.out.next hb)
  replace H2 := Lib.hid (H2.out.next hb)
  replace N1 := Lib.hid (N1.out.next hb)
  replace M3 := Lib.hid (M3.out.next hb)
  replace HBL := Lib.hid (HBL.out.trans (hb.mono HBL.out.size))
  have M4 := Lib.hid hx
  clear hx hb hw
  refine (pvalue_any [0, 1] 2 rfl 0 14 listed_c8 _ 2 w15 M4.out).mono ?_
  rintro e _ ⟨rfl, rfl⟩
  go_wp2_with fail
  refine (pnumber_any 0 (by omega) 0 [] listed_c9 w15).mono ?_
  rintro e w16 ⟨AN2, cN2, rfl, hs, hb⟩
  replace L1 := Lib.hid (L1.out.next hb)
  replace P1 := Lib.hid (P1.out.next hb)
  replace G1 := Lib.hid (G1.out.next hb)
  replace L2 := Lib.hid (L2.out.next hb)
  replace P2 := Lib.hid (P2.out.next hb)
  replace M0 := Lib.hid (M0.out.next hb)
  replace H0 := Lib.hid (H0.out.next hb)
  replace M1 := Lib.hid (M1.out.next hb)
  replace H1 := Lib.hid (H1.out.next hb)
  replace M2 := Lib.hid (M2.out.next hb)
  replace H2 := Lib.hid (H2.out.next hb)
  replace N1 := Lib.hid (N1.out.next hb)
  replace M3 := Lib.hid (M3.out.next hb)
  replace M4 := Lib.hid (M4.out.next hb)
  replace HBL := Lib.hid (HBL.out.trans (hb.mono HBL.out.size))
  have N2 := Lib.hid hs
  clear hb hs
  go_wp2_with fail
  refine (pnumber_any (-1) (by omega) 1 [] listed_c10 w16).mono ?_
  rintro e w17 ⟨AN3, cN3, rfl, hs, hb⟩
  replace L1 := Lib.hid (L1.out.next hb)
  replace P1 := Lib.hid (P1.out.next hb)
  replace G1 := Lib.hid (G1.out.next hb)
  replace L2 := Lib.hid (L2.out.next hb)
  replace P2 := Lib.hid (P2.out.next hb)
  replace M0 := Lib.hid (M0.out.next hb)
  replace H0 := Lib.hid (H0.out.next hb)
  replace M1 := Lib.hid (M1.out.next hb)
  replace H1 := Lib.hid (H1.out.next hb)
  replace M2 := Lib.hid (M2.out.next hb)
  replace H2 := Lib.hid (H2.out.next hb)
  replace N1 := Lib.hid (N1.out.next hb)
  replace M3 := Lib.hid (M3.out.next hb)
  replace M4 := Lib.hid (M4.out.next hb)
  replace N2 := Lib.hid (N2.out.next hb)
  replace HBL := Lib.hid (HBL.out.trans (hb.mono HBL.out.size))
  have N3 := Lib.hid hs
  clear hb hs
  go_wp2_with fail
  obtain ⟨w18, hw⟩ : ∃ w18, w18 = w17.alloc (.cells #[.int .u8 1, .int .u8 1, .int .u8 9, .int .u8 200, .int .u8 0] 5) := ⟨_, rfl⟩
  rw [← hw]
  have hx : Bs w18 w18.heap.size [1, 1, 9, 200, 0] (some ⟨w17.heap.size, 0, none⟩) 5 := by rw [hw]; exact bs_lit w17 _ [1, 1, 9, 200, 0] 5 rfl rfl (by omega) (by decide)
  have hb : Below w17.heap.size w17 w18 := by rw [hw]; exact below_lit w17 _ _
  replace L1 := Lib.hid (L1.out.next hb)
  replace P1 := Lib.hid (P1.out.next hb)
  replace G1 := Lib.hid (G1.out.next hb)
  replace L2 := Lib.hid (L2.out.next hb)
  replace P2 := Lib.hid (P2.out.next hb)
  replace M0 := Lib.hid (M0.out.next hb)
  replace H0 := Lib.hid (H0.out.next hb)
  replace M1 := Lib.hid (M1.out.next hb)
  replace H1 := Lib.hid (H1.out.next hb)
  replace M2 := Lib.hid (M2.out.next hb)
  replace H2 := Lib.hid (H2.out.next hb)
  replace N1 := Lib.hid (N1.out.next hb)
  replace M3 := Lib.hid (M3.out.next hb)
  replace M4 := Lib.hid (M4.out.next hb)
  replace N2 := Lib.hid (N2.out.next hb)
  replace N3 := Lib.hid (N3.out.next hb)
  replace HBL := Lib.hid (HBL.out.trans (hb.mono HBL.out.size))
  have M5 := Lib.hid hx
  clear hx hb hw
  refine (same_true [1, 1, 9, 200, 0] 5 5 rfl rfl AP1 _ cP1 5 w18 P1.out M5.out).mono ?_
  rintro e w19 ⟨rfl, hb⟩
  replace L1 := Lib.hid (L1.out.next hb)
  replace P1 := Lib.hid (P1.out.next hb)
  replace G1 := Lib.hid (G1.out.next hb)
  replace L2 := Lib.hid (L2.out.next hb)
  replace P2 := Lib.hid (P2.out.next hb)
  replace M0 := Lib.hid (M0.out.next hb)
  replace H0 := Lib.hid (H0.out.next hb)
  replace M1 := Lib.hid (M1.out.next hb)
  replace H1 := Lib.hid (H1.out.next hb)
  replace M2 := Lib.hid (M2.out.next hb)
  replace H2 := Lib.hid (H2.out.next hb)
  replace N1 := Lib.hid (N1.out.next hb)
  replace M3 := Lib.hid (M3.out.next hb)
  replace M4 := Lib.hid (M4.out.next hb)
  replace N2 := Lib.hid (N2.out.next hb)
  replace N3 := Lib.hid (N3.out.next hb)
  replace M5 := Lib.hid (M5.out.next hb)
  replace HBL := Lib.hid (HBL.out.trans (hb.mono HBL.out.size))
  clear hb
  go_wp2_with fail
  refine (refsame_tlv [⟨1, [9]⟩, ⟨200, []⟩] 2 2 rfl rfl _ AG1 2 cG1 w19 L1.out G1.out).mono ?_
  rintro e w20 ⟨rfl, hb⟩
  replace L1 := Lib.hid (L1.out.next hb)
  replace P1 := Lib.hid (P1.out.next hb)
  replace G1 := Lib.hid (G1.out.next hb)
  replace L2 := Lib.hid (L2.out.next hb)
  replace P2 := Lib.hid (P2.out.next hb)
  replace M0 := Lib.hid (M0.out.next hb)
  replace H0 := Lib.hid (H0.out.next hb)
  replace M1 := Lib.hid (M1.out.next hb)
  replace H1 := Lib.hid (H1.out.next hb)
  replace M2 := Lib.hid (M2.out.next hb)
  replace H2 := Lib.hid (H2.out.next hb)
  replace N1 := Lib.hid (N1.out.next hb)
  replace M3 := Lib.hid (M3.out.next hb)
  replace M4 := Lib.hid (M4.out.next hb)
  replace N2 := Lib.hid (N2.out.next hb)
  replace N3 := Lib.hid (N3.out.next hb)
  replace M5 := Lib.hid (M5.out.next hb)
  replace HBL := Lib.hid (HBL.out.trans (hb.mono HBL.out.size))
  clear hb
  go_wp2_with fail
  obtain ⟨w21, hw⟩ : ∃ w21, w21 = w20.alloc (.cells #[.int .u8 1, .int .u8 0] 5) := ⟨_, rfl⟩
  rw [← hw]
  have hx : Bs w21 w21.heap.size [1, 0] (some ⟨w20.heap.size, 0, none⟩) 2 := by rw [hw]; exact bs_lit w20 _ [1, 0] 2 rfl rfl (by omega) (by decide)
  have hb : Below w20.heap.size w20 w21 := by rw [hw]; exact below_lit w20 _ _
  replace L1 := Lib.hid (L1.out.next hb)
  replace P1 := Lib.hid (P1.out.next hb)
  replace G1 := Lib.hid (G1.out.next hb)
  replace L2 := Lib.hid (L2.out.next hb)
  replace P2 := Lib.hid (P2.out.next hb)
  replace M0 := Lib.hid (M0.out.next hb)
  replace H0 := Lib.hid (H0.out.next hb)
  replace M1 := Lib.hid (M1.out.next hb)
  replace H1 := Lib.hid (H1.out.next hb)
  replace M2 := Lib.hid (M2.out.next hb)
  replace H2 := Lib.hid (H2.out.next hb)
  replace N1 := Lib.hid (N1.out.next hb)
  replace M3 := Lib.hid (M3.out.next hb)
  replace M4 := Lib.hid (M4.out.next hb)
  replace N2 := Lib.hid (N2.out.next hb)
  replace N3 := Lib.hid (N3.out.next hb)
  replace M5 := Lib.hid (M5.out.next hb)
  replace HBL := Lib.hid (HBL.out.trans (hb.mono HBL.out.size))
  have M6 := Lib.hid hx
  clear hx hb hw
  refine (same_true [1, 0] 2 2 rfl rfl AN1 _ cN1 2 w21 N1.out M6.out).mono ?_
  rintro e w22 ⟨rfl, hb⟩
  replace L1 := Lib.hid (L1.out.next hb)
  replace P1 := Lib.hid (P1.out.next hb)
  replace G1 := Lib.hid (G1.out.next hb)
  replace L2 := Lib.hid (L2.out.next hb)
  replace P2 := Lib.hid (P2.out.next hb)
  replace M0 := Lib.hid (M0.out.next hb)
  replace H0 := Lib.hid (H0.out.next hb)
  replace M1 := Lib.hid (M1.out.next hb)
  replace H1 := Lib.hid (H1.out.next hb)
  replace M2 := Lib.hid (M2.out.next hb)
  replace H2 := Lib.hid (H2.out.next hb)
  replace N1 := Lib.hid (N1.out.next hb)
  replace M3 := Lib.hid (M3.out.next hb)
  replace M4 := Lib.hid (M4.out.next hb)
  replace N2 := Lib.hid (N2.out.next hb)
  replace N3 := Lib.hid (N3.out.next hb)
  replace M5 := Lib.hid (M5.out.next hb)
  replace M6 := Lib.hid (M6.out.next hb)
  replace HBL := Lib.hid (HBL.out.trans (hb.mono HBL.out.size))
  clear hb
  go_wp2_with fail
  refine (pis_tlv [⟨1, [9]⟩, ⟨200, []⟩] 2 rfl true listed_c11 _ 2 w22 L1.out).mono ?_
  rintro e w23 ⟨rfl, hb⟩
  replace L1 := Lib.hid (L1.out.next hb)
  replace P1 := Lib.hid (P1.out.next hb)
  replace G1 := Lib.hid (G1.out.next hb)
  replace L2 := Lib.hid (L2.out.next hb)
  replace P2 := Lib.hid (P2.out.next hb)
  replace M0 := Lib.hid (M0.out.next hb)
  replace H0 := Lib.hid (H0.out.next hb)
  replace M1 := Lib.hid (M1.out.next hb)
  replace H1 := Lib.hid (H1.out.next hb)
  replace M2 := Lib.hid (M2.out.next hb)
  replace H2 := Lib.hid (H2.out.next hb)
  replace N1 := Lib.hid (N1.out.next hb)
  replace M3 := Lib.hid (M3.out.next hb)
  replace M4 := Lib.hid (M4.out.next hb)
  replace N2 := Lib.hid (N2.out.next hb)
  replace N3 := Lib.hid (N3.out.next hb)
  replace M5 := Lib.hid (M5.out.next hb)
  replace M6 := Lib.hid (M6.out.next hb)
  replace HBL := Lib.hid (HBL.out.trans (hb.mono HBL.out.size))
  clear hb
  go_wp2
  go_ret
  exact ⟨rfl, HBL.out⟩
end Go.Proofs.Ytkjghmonpdbjeaa
